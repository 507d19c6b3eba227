/- Layer 9: what a part goes by, and how two of that stand to one another: the code's spotOf, part, taken, ahead, compare. -/
import Derived.Test.YtomdbjmbkfdcmaaMbBagMath
import Derived.Test.YtomdbjmbkfdcmaaMbMul
import Derived.Deep.RegionHeld3
namespace Go.Proofs.Ytomdbjmbkfdcmaa
set_option maxRecDepth 100000
open Go.RowKit Go.Sort

theorem modify_append_right (a os : Array Obj) (b : Nat) (f : Obj → Obj) (hb : a.size ≤ b) : (a ++ os).modify b f = a ++ os.modify (b - a.size) f := by
  apply Array.ext_getElem?
  intro i
  rw [Array.getElem?_modify]
  rcases Nat.lt_or_ge i a.size with h | h
  · rw [if_neg (by omega), Array.getElem?_append_left h, Array.getElem?_append_left h]
  · rw [Array.getElem?_append_right h, Array.getElem?_append_right h, Array.getElem?_modify]
    by_cases hi : b = i
    · subst hi; rw [if_pos rfl, if_pos rfl]
    · rw [if_neg hi, if_neg (by omega)]
/-- a store into a new block -/
theorem Grown.setNew {a w : World} (h : Grown a w) {b : Nat} (hb : a.heap.size ≤ b) (j : Nat) (v : Value) : Grown a (w.setCell ⟨b, j, none⟩ v) := by
  obtain ⟨n, os, rfl⟩ := h
  exact ⟨n, _, congrArg (fun h => ({ a.drewN n with heap := h } : World)) (modify_append_right (a.drewN n).heap os b _ hb)⟩

abbrev Sp.agg (a : Sp) : Value := .agg #[.int .i64 a.n, .int .i64 a.d.d, .int .i64 a.d.s]
abbrev spotRow (a : Sp) : Obj := .cells #[.int .i64 a.n, .int .i64 a.d.d, .int .i64 a.d.s] 70
theorem spot_row {w : World} {g : Nat} {a : Sp} (h : w.heap[g]? = some (spotRow a)) : w.cell? ⟨g, 0, none⟩ = some (.int .i64 a.n) ∧ w.cell? ⟨g, 1, none⟩ = some (.int .i64 a.d.d) ∧ w.cell? ⟨g, 2, none⟩ = some (.int .i64 a.d.s) := by
  have h2 := cell_row h
  refine ⟨?_, ?_, ?_⟩ <;> (rw [h2]; rfl)
theorem new_at (w : World) (o : Obj) (g : Nat) (h : w.heap.size = g) : (w.alloc o).heap[g]? = some o := by subst h; exact heap_alloc_new _ _
theorem old_at {w : World} {g : Nat} {o : Obj} (o' : Obj) (h : w.heap[g]? = some o) : (w.alloc o').heap[g]? = some o := by
  rw [Below.heap_alloc _ _ _ (Array.getElem?_eq_some_iff.1 h).1]; exact h

abbrev spot0 : Obj := .cells #[.int .i64 0, .int .i64 0, .int .i64 0] 70
set_option maxHeartbeats 800000 in
theorem spotOf_any (x : P11) (w : World) : Calls Try.prog 44 #[x.agg] w fun e w' => e = .returned (spP x).agg ∧ Grown w w' := by
  obtain ⟨w2, hw2⟩ : ∃ w2, w2 = (w.alloc (partCells x)).alloc spot0 := ⟨_, rfl⟩
  have R0 : w2.heap[w.heap.size]? = some (partCells x) := by rw [hw2]; exact old_at _ (heap_alloc_new w _)
  have R1 : w2.heap[w.heap.size + 1]? = some spot0 := by rw [hw2]; exact new_at _ _ _ (by simp)
  have HG : Hid (Grown w w2) := by rw [hw2]; exact ((Grown.refl w).alloc _).alloc _
  obtain ⟨c0, c1, c2, c3, c4, c5, c6, c7, c8, c9, c10⟩ := part_row R0
  have d0 : w2.cell? ⟨w.heap.size + 1, 0, none⟩ = some (.int .i64 0) := by rw [cell_row R1]; rfl
  have d1 : w2.cell? ⟨w.heap.size + 1, 1, none⟩ = some (.int .i64 0) := by rw [cell_row R1]; rfl
  have d2 : w2.cell? ⟨w.heap.size + 1, 2, none⟩ = some (.int .i64 0) := by rw [cell_row R1]; rfl
  have f0 := frozen_row R1
  have HR := Lib.hid R1
  replace hw2 := Lib.hid hw2
  clear R0 R1
  go_enter Try.func44, Try.ntmps44
  go_upto_region 1 with fail
  rw [show (w.alloc (partCells x)).alloc spot0 = w2 from hw2.out.symm]
  clear hw2
  go_wp2
  refine bodyPost_ret (v := (spP x).agg) (results_cell_row rfl _ _ (w.heap.size + 1) 70 _ (0, 0) _ rfl (set3 HR.out) Try.underlying70 rfl (by kernel_rfl)) rfl ?_
  exact ⟨rfl, ((HG.out.setNew (by omega) _ _).setNew (by omega) _ _).setNew (by omega) _ _⟩

theorem set11 {w : World} {g : Nat} {a b c d e f h i j k l : Value} (x : P11) {t : TypeId} {fr : Nat × Nat} (hr : w.heap[g]? = some (.cells #[a, b, c, d, e, f, h, i, j, k, l] t fr)) :
    (((((((((((w.setCell ⟨g, 0, none⟩ (.int .i64 x.v.k)).setCell ⟨g, 1, none⟩ (.int .i64 x.v.n)).setCell ⟨g, 2, none⟩ (.string x.v.s)).setCell ⟨g, 3, none⟩ (.int .i64 x.d.d)).setCell ⟨g, 4, none⟩ (.int .i64 x.d.s)).setCell ⟨g, 5, none⟩ (.int .i64 x.i)).setCell ⟨g, 6, none⟩ (.int .i64 x.t)).setCell ⟨g, 7, none⟩ (.int .i64 x.a.d)).setCell ⟨g, 8, none⟩ (.int .i64 x.a.s)).setCell ⟨g, 9, none⟩ (.int .i64 x.j)).setCell ⟨g, 10, none⟩ (.bool x.g)).heap[g]? = some (.cells #[.int .i64 x.v.k, .int .i64 x.v.n, .string x.v.s, .int .i64 x.d.d, .int .i64 x.d.s, .int .i64 x.i, .int .i64 x.t, .int .i64 x.a.d, .int .i64 x.a.s, .int .i64 x.j, .bool x.g] t fr) := by
  rw [set_row (set_row (set_row (set_row (set_row (set_row (set_row (set_row (set_row (set_row (set_row hr 0 _) 1 _) 2 _) 3 _) 4 _) 5 _) 6 _) 7 _) 8 _) 9 _) 10 _]
  simp only [List.setIfInBounds_toArray, List.set_cons_zero, List.set_cons_succ]
theorem Grown.set11 {a w : World} (h : Grown a w) {g : Nat} (hb : a.heap.size ≤ g) (x0 x1 x2 x3 x4 x5 x6 x7 x8 x9 x10 : Value) :
    Grown a (((((((((((w.setCell ⟨g, 0, none⟩ x0).setCell ⟨g, 1, none⟩ x1).setCell ⟨g, 2, none⟩ x2).setCell ⟨g, 3, none⟩ x3).setCell ⟨g, 4, none⟩ x4).setCell ⟨g, 5, none⟩ x5).setCell ⟨g, 6, none⟩ x6).setCell ⟨g, 7, none⟩ x7).setCell ⟨g, 8, none⟩ x8).setCell ⟨g, 9, none⟩ x9).setCell ⟨g, 10, none⟩ x10) :=
  by
  have h1 := h.setNew hb 0 x0
  have h2 := h1.setNew hb 1 x1
  have h3 := h2.setNew hb 2 x2
  have h4 := h3.setNew hb 3 x3
  have h5 := h4.setNew hb 4 x4
  have h6 := h5.setNew hb 5 x5
  have h7 := h6.setNew hb 6 x6
  have h8 := h7.setNew hb 7 x7
  have h9 := h8.setNew hb 8 x8
  have h10 := h9.setNew hb 9 x9
  exact h10.setNew hb 10 x10

abbrev part00 : Obj := .cells #[.int .i64 0, .int .i64 0, .string ⟨#[]⟩, .int .i64 0, .int .i64 0, .int .i64 0, .int .i64 0, .int .i64 0, .int .i64 0, .int .i64 0, .bool false] 30
set_option maxHeartbeats 1600000 in
theorem partOf_any (s : Sp) (w : World) : Calls Try.prog 63 #[s.agg] w fun e w' => e = .returned (partB s).agg ∧ Grown w w' := by
  obtain ⟨w2, hw2⟩ : ∃ w2, w2 = (w.alloc (spotRow s)).alloc part00 := ⟨_, rfl⟩
  have R0 : w2.heap[w.heap.size]? = some (spotRow s) := by rw [hw2]; exact old_at _ (heap_alloc_new w _)
  have R1 : w2.heap[w.heap.size + 1]? = some part00 := by rw [hw2]; exact new_at _ _ _ (by simp)
  have HG : Hid (Grown w w2) := by rw [hw2]; exact ((Grown.refl w).alloc _).alloc _
  obtain ⟨c0, c1, c2⟩ := spot_row R0
  have d0 := cell_row R1
  have f0 := frozen_row R1
  have HR := Lib.hid R1
  have e0 : w2.cell? ⟨w.heap.size + 1, 0, none⟩ = some (.int .i64 0) := by rw [d0]; rfl
  have e1 : w2.cell? ⟨w.heap.size + 1, 1, none⟩ = some (.int .i64 0) := by rw [d0]; rfl
  have e2 : w2.cell? ⟨w.heap.size + 1, 2, none⟩ = some (.string ⟨#[]⟩) := by rw [d0]; rfl
  have e3 : w2.cell? ⟨w.heap.size + 1, 3, none⟩ = some (.int .i64 0) := by rw [d0]; rfl
  have e4 : w2.cell? ⟨w.heap.size + 1, 4, none⟩ = some (.int .i64 0) := by rw [d0]; rfl
  have e5 : w2.cell? ⟨w.heap.size + 1, 5, none⟩ = some (.int .i64 0) := by rw [d0]; rfl
  have e6 : w2.cell? ⟨w.heap.size + 1, 6, none⟩ = some (.int .i64 0) := by rw [d0]; rfl
  have e7 : w2.cell? ⟨w.heap.size + 1, 7, none⟩ = some (.int .i64 0) := by rw [d0]; rfl
  have e8 : w2.cell? ⟨w.heap.size + 1, 8, none⟩ = some (.int .i64 0) := by rw [d0]; rfl
  have e9 : w2.cell? ⟨w.heap.size + 1, 9, none⟩ = some (.int .i64 0) := by rw [d0]; rfl
  have e10 : w2.cell? ⟨w.heap.size + 1, 10, none⟩ = some (.bool false) := by rw [d0]; rfl
  replace hw2 := Lib.hid hw2
  clear R0 R1 d0
  go_enter Try.func63, Try.ntmps63
  go_upto_region 1 with fail
  rw [show (w.alloc (spotRow s)).alloc part00 = w2 from hw2.out.symm]
  clear hw2
  go_wp2
  refine bodyPost_ret (v := (partB s).agg) (results_cell_row rfl _ _ (w.heap.size + 1) 30 _ (0, 0) _ rfl (set11 (partB s) HR.out) Try.underlying30 rfl (by kernel_rfl)) rfl ?_
  exact ⟨rfl, HG.out.set11 (by omega) _ _ _ _ _ _ _ _ _ _ _⟩

abbrev threeCells (x y z : Int) : Obj := .cells #[.int .i64 x, .int .i64 y, .int .i64 z] 3
set_option maxHeartbeats 800000 in
theorem cmpOr3_any (x y z : Int) (w : World) (b : Nat) (h : w.heap[b]? = some (threeCells x y z)) :
    Calls Try.prog 71 #[.slice (some ⟨b, 0, none⟩) 3 3] w fun e w' => e = .returned (.int .i64 (or3 x y z)) ∧ w' = w := by
  have c0 := cell_row h 0; have c1 := cell_row h 1; have c2 := cell_row h 2
  simp only [List.getElem?_toArray, List.getElem?_cons_zero, List.getElem?_cons_succ] at c0 c1 c2
  obtain ⟨r, hr⟩ : ∃ r, Hid (or3 x y z = r) := ⟨_, rfl⟩
  rw [hr.out]
  clear h
  go_enter Try.func71, Try.ntmps71
  go_wp2_with fail
  go_loopw [8] (fun i wr => ∃ k : Nat, k ≤ 3 ∧ i = .int .i64 k ∧ Hid (0 < k → x = 0) ∧ Hid (1 < k → y = 0) ∧ Hid (2 < k → z = 0) ∧ wr = w) (fun i _ => 3 - (intOf i).toNat)
  case atStart => exact ⟨0, by omega, rfl, fun h => by omega, fun h => by omega, fun h => by omega, rfl⟩
  case round =>
    obtain ⟨k, hk, rfl, hx, hy, hz, rfl⟩ := hrel
    rcases (show k = 0 ∨ k = 1 ∨ k = 2 ∨ k = 3 by omega) with rfl | rfl | rfl | rfl
    · by_cases h0 : x = 0
      · obtain rfl := h0
        go_wp2
        exact ⟨⟨1, by omega, rfl, fun _ => by trivial, fun h => by omega, fun h => by omega, by trivial⟩, by simp [intOf]⟩
      · have hb : (x == 0) = false := by simpa using h0
        have hr2 : Hid (x = r) := by show _ = _; rw [← hr.out, or3, if_neg h0]
        go_wp2
        go_ret
        exact ⟨ret_int hr2.out, rfl⟩
    · have hxx := hx.out (by omega)
      by_cases h0 : y = 0
      · obtain rfl := h0
        go_wp2
        exact ⟨⟨2, by omega, rfl, fun _ => hxx, fun _ => by trivial, fun h => by omega, by trivial⟩, by simp [intOf]⟩
      · have hb : (y == 0) = false := by simpa using h0
        have hr2 : Hid (y = r) := by show _ = _; rw [← hr.out, or3, if_pos hxx, if_neg h0]
        clear hxx
        go_wp2
        go_ret
        exact ⟨ret_int hr2.out, rfl⟩
    · have hxx := hx.out (by omega)
      have hyy := hy.out (by omega)
      by_cases h0 : z = 0
      · obtain rfl := h0
        go_wp2
        exact ⟨⟨3, by omega, rfl, fun _ => hxx, fun _ => hyy, fun _ => by trivial, by trivial⟩, by simp [intOf]⟩
      · have hb : (z == 0) = false := by simpa using h0
        have hr2 : Hid (z = r) := by show _ = _; rw [← hr.out, or3, if_pos hxx, if_pos hyy]
        clear hxx hyy
        go_wp2
        go_ret
        exact ⟨ret_int hr2.out, rfl⟩
    · have hr2 : Hid (0 = r) := by show _ = _; rw [← hr.out, or3, if_pos (hx.out (by omega)), if_pos (hy.out (by omega)), hz.out (by omega)]
      go_wp2
      go_ret
      exact ⟨ret_int hr2.out, rfl⟩

set_option maxHeartbeats 1600000 in
theorem compareB_any (a b : Sp) (w : World) : Calls Try.prog 55 #[a.agg, b.agg] w fun e w' => e = .returned (.int .i64 (cmpQ a b)) ∧ Grown w w' := by
  have P := Lib.hid (fun x y => cmpCompare_any x y)
  have OR := Lib.hid (fun (x y z : Int) (W : World) => cmpOr3_any x y z (W.alloc (threeCells x y z)).drew W.heap.size (row_drew (heap_alloc_new _ _)))
  obtain ⟨w1, hw1⟩ : ∃ w1, w1 = (w.alloc (spotRow a)).alloc (spotRow b) := ⟨_, rfl⟩
  have hg0 : Grown w w1 := by rw [hw1]; exact ((Grown.refl w).alloc _).alloc _
  obtain ⟨c0, c1, c2⟩ := spot_row (show w1.heap[w.heap.size]? = some (spotRow a) by rw [hw1]; exact old_at _ (heap_alloc_new w _))
  obtain ⟨c3, c4, c5⟩ := spot_row (show w1.heap[w.heap.size + 1]? = some (spotRow b) by rw [hw1]; exact new_at _ _ _ (by simp))
  have K : Hid (∀ W, Grown w1 W → W.cell? ⟨w.heap.size, 0, none⟩ = some (.int .i64 a.n) ∧ W.cell? ⟨w.heap.size, 1, none⟩ = some (.int .i64 a.d.d) ∧ W.cell? ⟨w.heap.size, 2, none⟩ = some (.int .i64 a.d.s) ∧ W.cell? ⟨w.heap.size + 1, 0, none⟩ = some (.int .i64 b.n) ∧ W.cell? ⟨w.heap.size + 1, 1, none⟩ = some (.int .i64 b.d.d) ∧ W.cell? ⟨w.heap.size + 1, 2, none⟩ = some (.int .i64 b.d.s)) := by
    intro W hW
    have hc : ∀ (p : Addr) (y : Value), w1.cell? p = some y → W.cell? p = some y := fun p y h2 => (hW.below.cell (World.block_lt_of_cell? _ _ h2)).trans h2
    exact ⟨hc _ _ c0, hc _ _ c1, hc _ _ c2, hc _ _ c3, hc _ _ c4, hc _ _ c5⟩
  have hg1 := (Grown.refl w1).drew
  have HG0 := Lib.hid hg0
  clear hg0
  go_enter Try.func55, Try.ntmps55
  go_wp2_with fail
  rw [← hw1]
  clear hw1
  go_region_held3 (fun W => Grown w1 W ∧ W.cell? ⟨w.heap.size, 0, none⟩ = some (.int .i64 a.n) ∧ W.cell? ⟨w.heap.size, 1, none⟩ = some (.int .i64 a.d.d) ∧ W.cell? ⟨w.heap.size, 2, none⟩ = some (.int .i64 a.d.s) ∧ W.cell? ⟨w.heap.size + 1, 0, none⟩ = some (.int .i64 b.n) ∧ W.cell? ⟨w.heap.size + 1, 1, none⟩ = some (.int .i64 b.d.d) ∧ W.cell? ⟨w.heap.size + 1, 2, none⟩ = some (.int .i64 b.d.s))
    (first
      | (refine ⟨?_, K.out _ ?_⟩ <;> (go_split_ands; (first | assumption | exact Grown.alloc (by assumption) _))))
    (first
      | (go_at_call 72; refine (P.out _ _ _).mono ?_; rintro e wx ⟨rfl, rfl⟩)
      | (go_at_call 71; refine (OR.out _ _ _ _).mono ?_; rintro e wx ⟨rfl, rfl⟩))
  all_goals
    go_wp2
    go_ret
    exact ⟨rfl, Grown.trans HG0.out (Grown.drew (Grown.alloc (Grown.refl _) _))⟩
end Go.Proofs.Ytomdbjmbkfdcmaa

