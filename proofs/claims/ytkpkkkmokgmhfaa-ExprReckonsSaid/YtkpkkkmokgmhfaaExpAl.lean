/- Layer 12: the laws' own expressions. -/
import Derived.Test.YtkpkkkmokgmhfaaExpRight
namespace Go.Proofs.Ytkpkkkmokgmhfaa
set_option maxRecDepth 100000
open Go.RowKit Go.MapKept

theorem set6 {w : World} {g : Nat} {a b c d e f x y z u v q : Value} {t : TypeId} {fr : Nat × Nat} (h : w.heap[g]? = some (.cells #[a, b, c, d, e, f] t fr)) :
    ((((((w.setCell ⟨g, 0, none⟩ x).setCell ⟨g, 1, none⟩ y).setCell ⟨g, 2, none⟩ z).setCell ⟨g, 3, none⟩ u).setCell ⟨g, 4, none⟩ v).setCell ⟨g, 5, none⟩ q).heap[g]? = some (.cells #[x, y, z, u, v, q] t fr) := by
  rw [set_row (set_row (set_row (set_row (set_row (set_row h 0 x) 1 y) 2 z) 3 u) 4 v) 5 q]
  rfl
theorem below_set6 {w0 w : World} {B g : Nat} {x y z u v q : Value} (h : Below B w0 w) (hg : B ≤ g) : Below B w0 ((((((w.setCell ⟨g, 0, none⟩ x).setCell ⟨g, 1, none⟩ y).setCell ⟨g, 2, none⟩ z).setCell ⟨g, 3, none⟩ u).setCell ⟨g, 4, none⟩ v).setCell ⟨g, 5, none⟩ q) :=
  (((((h.setCell hg x).setCell hg y).setCell hg z).setCell hg u).setCell hg v).setCell hg q
theorem rd2 {w : World} {g : Nat} {x y : E6} {t : TypeId} (h : w.heap[g]? = some (.cells #[.int .i64 x.k, .int .i64 x.n, .int .i64 x.v.k, .int .i64 x.v.n, .string x.v.s, .slice x.a x.m x.c, .int .i64 y.k, .int .i64 y.n, .int .i64 y.v.k, .int .i64 y.v.n, .string y.v.s, .slice y.a y.m y.c] t)) : RdE w (some ⟨g, 0, none⟩) 2 2 [x, y] := by
  refine ⟨rfl, Nat.le_refl _, by decide, fun _ => ⟨g, 0, rfl, (Array.getElem?_eq_some_iff.1 h).1, fun j hj i v hv => ?_⟩⟩
  rw [cell_row h]
  match j, hj with
  | 0, _ => simp only [List.getElem_cons_zero] at hv; match i, hv with
    | 0, hv => exact hv
    | 1, hv => exact hv
    | 2, hv => exact hv
    | 3, hv => exact hv
    | 4, hv => exact hv
    | 5, hv => exact hv
    | i + 6, hv => simp [E6.cells] at hv
  | 1, _ => simp only [List.getElem_cons_succ, List.getElem_cons_zero] at hv; match i, hv with
    | 0, hv => exact hv
    | 1, hv => exact hv
    | 2, hv => exact hv
    | 3, hv => exact hv
    | 4, hv => exact hv
    | 5, hv => exact hv
    | i + 6, hv => simp [E6.cells] at hv
  | j + 2, hj => exact absurd hj (by simp)
abbrev leafE (k n : Int) (v : V3) : E6 := ⟨k, n, v, none, 0, 0, []⟩
abbrev numE (n : Int) : E6 := leafE 1 0 (numV n)
abbrev twoE (k : Int) (A : Option Addr) (x y : E6) : E6 := ⟨k, 0, v0, A, 2, 2, [x, y]⟩

set_option maxHeartbeats 3200000 in
theorem num_any (n : Int) (w : World) : Calls Try.prog 24 #[.int .i64 n] w fun r w' => r = .returned (numE n).agg ∧ Below w.heap.size w w' := by
  obtain ⟨w1, hw1⟩ : ∃ w1, w1 = (w.alloc (exprBox (leafE 0 0 v0))) := ⟨_, rfl⟩
  have HW := Lib.hid hw1
  have R0 : Hid (w1.heap[w.heap.size]? = some (exprBox (leafE 0 0 v0))) := by rw [hw1]; exact new_row _ _ rfl
  have HB : Hid (Below w.heap.size w w1) := by rw [hw1]; exact below_new (Below.refl _ _) _
  have SZ : Hid (w1.heap.size = w.heap.size + 1) := by show _ = _; rw [hw1]; simp only [World.size_alloc]
  obtain ⟨p0_0, p0_1, p0_2, p0_3, p0_4, p0_5⟩ := expr_row R0.out
  clear hw1
  have f0 := frozen_row R0.out
  go_enter Try.func24, Try.ntmps24
  go_upto_region 1 with fail
  rw [show (w.alloc (exprBox (leafE 0 0 v0))) = w1 from HW.out.symm]
  clear HW
  go_wp2
  refine bodyPost_ret (v := (numE n).agg) (results_cell_row rfl _ _ w.heap.size 26 _ (0, 0) _ rfl (set6 R0.out) Try.underlying26 rfl (by kernel_rfl)) rfl ?_
  exact ⟨rfl, below_set6 HB.out (Nat.le_refl _)⟩

set_option maxHeartbeats 6400000 in
theorem of_any (k : Int) (x y : E6) (w : World) (hx : ReadsE w x) (hy : ReadsE w y) : Calls Try.prog 23 #[.int .i64 k, x.agg, y.agg] w fun r w' => ∃ A, r = .returned (twoE k A x y).agg ∧ ReadsE w' (twoE k A x y) ∧ Below w.heap.size w w' := by
  obtain ⟨w1, hw1⟩ : ∃ w1, w1 = (((w.alloc (exprBox x)).alloc (exprBox y)).alloc (exprBox (leafE 0 0 v0))) := ⟨_, rfl⟩
  have HW := Lib.hid hw1
  have R0 : Hid (w1.heap[w.heap.size]? = some (exprBox x)) := by rw [hw1]; exact old_row _ (old_row _ (new_row _ _ rfl))
  have R1 : Hid (w1.heap[w.heap.size + 1]? = some (exprBox y)) := by rw [hw1]; exact old_row _ (new_row _ _ (by simp only [World.size_alloc]))
  have R2 : Hid (w1.heap[w.heap.size + 1 + 1]? = some (exprBox (leafE 0 0 v0))) := by rw [hw1]; exact new_row _ _ (by simp only [World.size_alloc])
  have HB : Hid (Below w.heap.size w w1) := by rw [hw1]; exact below_new (below_new (below_new (Below.refl _ _) _) _) _
  have SZ : Hid (w1.heap.size = w.heap.size + 1 + 1 + 1) := by show _ = _; rw [hw1]; simp only [World.size_alloc]
  obtain ⟨p0_0, p0_1, p0_2, p0_3, p0_4, p0_5⟩ := expr_row R0.out
  obtain ⟨p1_0, p1_1, p1_2, p1_3, p1_4, p1_5⟩ := expr_row R1.out
  obtain ⟨p2_0, p2_1, p2_2, p2_3, p2_4, p2_5⟩ := expr_row R2.out
  clear hw1
  have HX := Lib.hid hx; have HY := Lib.hid hy
  have b2 : Below w1.heap.size w1 (w1.alloc (.cells #[.int .i64 x.k, .int .i64 x.n, .int .i64 x.v.k, .int .i64 x.v.n, .string x.v.s, .slice x.a x.m x.c, .int .i64 y.k, .int .i64 y.n, .int .i64 y.v.k, .int .i64 y.v.n, .string y.v.s, .slice y.a y.m y.c] 26)) := below_new (Below.refl _ _) _
  have HB2 : Hid (Below w.heap.size w (w1.alloc (.cells #[.int .i64 x.k, .int .i64 x.n, .int .i64 x.v.k, .int .i64 x.v.n, .string x.v.s, .slice x.a x.m x.c, .int .i64 y.k, .int .i64 y.n, .int .i64 y.v.k, .int .i64 y.v.n, .string y.v.s, .slice y.a y.m y.c] 26))) := Lib.hid (below_then HB.out b2)
  have R2' : Hid ((w1.alloc (.cells #[.int .i64 x.k, .int .i64 x.n, .int .i64 x.v.k, .int .i64 x.v.n, .string x.v.s, .slice x.a x.m x.c, .int .i64 y.k, .int .i64 y.n, .int .i64 y.v.k, .int .i64 y.v.n, .string y.v.s, .slice y.a y.m y.c] 26)).heap[w.heap.size + 1 + 1]? = some (exprBox (leafE 0 0 v0))) := Lib.hid (row_below R2.out b2)
  have RN : Hid ((w1.alloc (.cells #[.int .i64 x.k, .int .i64 x.n, .int .i64 x.v.k, .int .i64 x.v.n, .string x.v.s, .slice x.a x.m x.c, .int .i64 y.k, .int .i64 y.n, .int .i64 y.v.k, .int .i64 y.v.n, .string y.v.s, .slice y.a y.m y.c] 26)).heap[w1.heap.size]? = some (.cells #[.int .i64 x.k, .int .i64 x.n, .int .i64 x.v.k, .int .i64 x.v.n, .string x.v.s, .slice x.a x.m x.c, .int .i64 y.k, .int .i64 y.n, .int .i64 y.v.k, .int .i64 y.v.n, .string y.v.s, .slice y.a y.m y.c] 26)) := Lib.hid (heap_alloc_new _ _)
  obtain ⟨z0, z1, z2, z3, z4, z5⟩ := expr_row R2'.out
  have f3 := frozen_row R2'.out
  have HGN : Hid (w.heap.size + 1 + 1 < w1.heap.size) := by show _ < _; rw [SZ.out]; omega
  clear hx hy b2
  go_enter Try.func23, Try.ntmps23
  go_upto_region 1 with fail
  rw [show (((w.alloc (exprBox x)).alloc (exprBox y)).alloc (exprBox (leafE 0 0 v0))) = w1 from HW.out.symm]
  clear HW
  go_wp2_with fail
  have hgn := HGN.out
  refine bodyPost_ret (v := (twoE k (some ⟨w1.heap.size, 0, none⟩) x y).agg) (results_cell_row rfl _ _ (w.heap.size + 1 + 1) 26 _ (0, 0) _ rfl (set6 R2'.out) Try.underlying26 rfl (by kernel_rfl)) rfl ?_
  have hB := below_set6 (x := .int .i64 k) (y := .int .i64 0) (z := .int .i64 0) (u := .int .i64 0) (v := .string ⟨#[]⟩) (q := .slice (some ⟨w1.heap.size, 0, none⟩) 2 2) (g := w.heap.size + 1 + 1) HB2.out (by omega)
  refine ⟨some ⟨w1.heap.size, 0, none⟩, rfl, .mk ?_ ?_, hB⟩
  · refine rd2 (t := 26) ?_
    iterate 6 rw [Below.heap_setCell _ _ _ _ (show w1.heap.size ≠ w.heap.size + 1 + 1 by omega)]
    exact RN.out
  · intro z hz
    rcases List.mem_cons.1 hz with rfl | hz
    · exact HX.out.keep hB
    · obtain rfl := List.mem_singleton.1 hz
      exact HY.out.keep hB
end Go.Proofs.Ytkpkkkmokgmhfaa
