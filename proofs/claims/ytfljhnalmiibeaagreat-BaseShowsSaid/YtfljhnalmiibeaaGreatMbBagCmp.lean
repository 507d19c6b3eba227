/- Several texts laid together: BagCmp, BagClos, BagRightP. -/
import Derived.Test.YtfljhnalmiibeaaGreatMbMulRight2
import Derived.Test.YtfljhnalmiibeaaGreatMbMulCmp
import Derived.Deep.RegionHeld3
import Derived.WideKeyRuns
import Derived.MapKept
import Derived.Test.YtfljhnalmiibeaaGreatMbValMath
import Derived.Laws.NewBlocks
import Derived.Deep.WholeRow
import Derived.Test.YtfljhnalmiibeaaGreatMbBasPut2
namespace Go.Proofs.YtfljhnalmiibeaaGreat
set_option maxRecDepth 100000
open Go.RowKit Go.Sort
theorem modify_append_right (a os : Array Obj) (b : Nat) (f : Obj → Obj) (hb : a.size ≤ b) : (a ++ os).modify b f = a ++ os.modify (b - a.size) f := by
  apply Array.ext_getElem?
  intro i
  rw [Array.getElem?_modify]
  rcases Nat.lt_or_ge i a.size with h | h
  · rw [if_neg (by omega), Array.getElem?_append_left h, Array.getElem?_append_left h]
  · rw [Array.getElem?_append_right h, Array.getElem?_append_right h, Array.getElem?_modify]
    by_cases hi : b = i
    · subst hi; rw [if_pos rfl, if_pos rfl]
    · rw [if_neg hi, if_neg (by omega)]
/-- a store into a new block -/
theorem Grown.setNew {a w : World} (h : Grown a w) {b : Nat} (hb : a.heap.size ≤ b) (j : Nat) (v : Value) : Grown a (w.setCell ⟨b, j, none⟩ v) := by
  obtain ⟨n, os, rfl⟩ := h
  exact ⟨n, _, congrArg (fun h => ({ a.drewN n with heap := h } : World)) (modify_append_right (a.drewN n).heap os b _ hb)⟩
abbrev Sp.agg (a : Sp) : Value := .agg #[.int .i64 a.n, .int .i64 a.d.d, .int .i64 a.d.s]
abbrev spotRow (a : Sp) : Obj := .cells #[.int .i64 a.n, .int .i64 a.d.d, .int .i64 a.d.s] 182
theorem spot_row {w : World} {g : Nat} {a : Sp} (h : w.heap[g]? = some (spotRow a)) : w.cell? ⟨g, 0, none⟩ = some (.int .i64 a.n) ∧ w.cell? ⟨g, 1, none⟩ = some (.int .i64 a.d.d) ∧ w.cell? ⟨g, 2, none⟩ = some (.int .i64 a.d.s) := by
  have h2 := cell_row h
  refine ⟨?_, ?_, ?_⟩ <;> (rw [h2]; rfl)
theorem new_at (w : World) (o : Obj) (g : Nat) (h : w.heap.size = g) : (w.alloc o).heap[g]? = some o := by subst h; exact heap_alloc_new _ _
theorem old_at {w : World} {g : Nat} {o : Obj} (o' : Obj) (h : w.heap[g]? = some o) : (w.alloc o').heap[g]? = some o := by
  rw [Below.heap_alloc _ _ _ (Array.getElem?_eq_some_iff.1 h).1]; exact h
abbrev spot0 : Obj := .cells #[.int .i64 0, .int .i64 0, .int .i64 0] 182
set_option maxHeartbeats 800000 in
theorem spotOf_any (x : P11) (w : World) : Calls Tryz.prog 161 #[x.agg] w fun e w' => e = .returned (spP x).agg ∧ Grown w w' := by
  obtain ⟨w2, hw2⟩ : ∃ w2, w2 = (w.alloc (partCells x)).alloc spot0 := ⟨_, rfl⟩
  have R0 : w2.heap[w.heap.size]? = some (partCells x) := by rw [hw2]; exact old_at _ (heap_alloc_new w _)
  have R1 : w2.heap[w.heap.size + 1]? = some spot0 := by rw [hw2]; exact new_at _ _ _ (by simp)
  have HG : Hid (Grown w w2) := by rw [hw2]; exact ((Grown.refl w).alloc _).alloc _
  obtain ⟨c0, c1, c2, c3, c4, c5, c6, c7, c8, c9, c10⟩ := part_row R0
  have d0 : w2.cell? ⟨w.heap.size + 1, 0, none⟩ = some (.int .i64 0) := by rw [cell_row R1]; rfl
  have d1 : w2.cell? ⟨w.heap.size + 1, 1, none⟩ = some (.int .i64 0) := by rw [cell_row R1]; rfl
  have d2 : w2.cell? ⟨w.heap.size + 1, 2, none⟩ = some (.int .i64 0) := by rw [cell_row R1]; rfl
  have f0 := frozen_row R1
  have HR := Lib.hid R1
  replace hw2 := Lib.hid hw2
  clear R0 R1
  go_enter Tryz.func161, Tryz.ntmps161
  go_upto_region 1 with fail
  rw [show (w.alloc (partCells x)).alloc spot0 = w2 from hw2.out.symm]
  clear hw2
  go_wp2
  refine bodyPost_ret (v := (spP x).agg) (results_cell_row rfl _ _ (w.heap.size + 1) 182 _ (0, 0) _ rfl (set3 HR.out) Tryz.underlying182 rfl (by kernel_rfl)) rfl ?_
  exact ⟨rfl, ((HG.out.setNew (by omega) _ _).setNew (by omega) _ _).setNew (by omega) _ _⟩
abbrev threeCells (x y z : Int) : Obj := .cells #[.int .i64 x, .int .i64 y, .int .i64 z] 3
set_option maxHeartbeats 800000 in
theorem cmpOr3_any (x y z : Int) (w : World) (b : Nat) (h : w.heap[b]? = some (threeCells x y z)) :
    Calls Tryz.prog 72 #[.slice (some ⟨b, 0, none⟩) 3 3] w fun e w' => e = .returned (.int .i64 (or3 x y z)) ∧ w' = w := by
  have c0 := cell_row h 0; have c1 := cell_row h 1; have c2 := cell_row h 2
  simp only [List.getElem?_toArray, List.getElem?_cons_zero, List.getElem?_cons_succ] at c0 c1 c2
  obtain ⟨r, hr⟩ : ∃ r, Hid (or3 x y z = r) := ⟨_, rfl⟩
  rw [hr.out]
  clear h
  go_enter Tryz.func72, Tryz.ntmps72
  go_wp2_with fail
  go_loopw [8] (fun i wr => ∃ k : Nat, k ≤ 3 ∧ i = .int .i64 k ∧ Hid (0 < k → x = 0) ∧ Hid (1 < k → y = 0) ∧ Hid (2 < k → z = 0) ∧ wr = w) (fun i _ => 3 - (intOf i).toNat)
  case atStart => exact ⟨0, by omega, rfl, fun h => by omega, fun h => by omega, fun h => by omega, rfl⟩
  case round =>
    obtain ⟨k, hk, rfl, hx, hy, hz, rfl⟩ := hrel
    rcases (show k = 0 ∨ k = 1 ∨ k = 2 ∨ k = 3 by omega) with rfl | rfl | rfl | rfl
    · by_cases h0 : x = 0
      · obtain rfl := h0
        go_wp2
        exact ⟨⟨1, by omega, rfl, fun _ => by trivial, fun h => by omega, fun h => by omega, by trivial⟩, by simp [intOf]⟩
      · have hb : (x == 0) = false := by simpa using h0
        have hr2 : Hid (x = r) := by show _ = _; rw [← hr.out, or3, if_neg h0]
        go_wp2
        go_ret
        exact ⟨ret_int hr2.out, rfl⟩
    · have hxx := hx.out (by omega)
      by_cases h0 : y = 0
      · obtain rfl := h0
        go_wp2
        exact ⟨⟨2, by omega, rfl, fun _ => hxx, fun _ => by trivial, fun h => by omega, by trivial⟩, by simp [intOf]⟩
      · have hb : (y == 0) = false := by simpa using h0
        have hr2 : Hid (y = r) := by show _ = _; rw [← hr.out, or3, if_pos hxx, if_neg h0]
        clear hxx
        go_wp2
        go_ret
        exact ⟨ret_int hr2.out, rfl⟩
    · have hxx := hx.out (by omega)
      have hyy := hy.out (by omega)
      by_cases h0 : z = 0
      · obtain rfl := h0
        go_wp2
        exact ⟨⟨3, by omega, rfl, fun _ => hxx, fun _ => hyy, fun _ => by trivial, by trivial⟩, by simp [intOf]⟩
      · have hb : (z == 0) = false := by simpa using h0
        have hr2 : Hid (z = r) := by show _ = _; rw [← hr.out, or3, if_pos hxx, if_pos hyy]
        clear hxx hyy
        go_wp2
        go_ret
        exact ⟨ret_int hr2.out, rfl⟩
    · have hr2 : Hid (0 = r) := by show _ = _; rw [← hr.out, or3, if_pos (hx.out (by omega)), if_pos (hy.out (by omega)), hz.out (by omega)]
      go_wp2
      go_ret
      exact ⟨ret_int hr2.out, rfl⟩
set_option maxHeartbeats 1600000 in
theorem compareB_any (a b : Sp) (w : World) : Calls Tryz.prog 178 #[a.agg, b.agg] w fun e w' => e = .returned (.int .i64 (cmpQ a b)) ∧ Grown w w' := by
  have P := Lib.hid (fun x y => cmpCompare_any x y)
  have OR := Lib.hid (fun (x y z : Int) (W : World) => cmpOr3_any x y z (W.alloc (threeCells x y z)).drew W.heap.size (row_drew (heap_alloc_new _ _)))
  obtain ⟨w1, hw1⟩ : ∃ w1, w1 = (w.alloc (spotRow a)).alloc (spotRow b) := ⟨_, rfl⟩
  have hg0 : Grown w w1 := by rw [hw1]; exact ((Grown.refl w).alloc _).alloc _
  obtain ⟨c0, c1, c2⟩ := spot_row (show w1.heap[w.heap.size]? = some (spotRow a) by rw [hw1]; exact old_at _ (heap_alloc_new w _))
  obtain ⟨c3, c4, c5⟩ := spot_row (show w1.heap[w.heap.size + 1]? = some (spotRow b) by rw [hw1]; exact new_at _ _ _ (by simp))
  have K : Hid (∀ W, Grown w1 W → W.cell? ⟨w.heap.size, 0, none⟩ = some (.int .i64 a.n) ∧ W.cell? ⟨w.heap.size, 1, none⟩ = some (.int .i64 a.d.d) ∧ W.cell? ⟨w.heap.size, 2, none⟩ = some (.int .i64 a.d.s) ∧ W.cell? ⟨w.heap.size + 1, 0, none⟩ = some (.int .i64 b.n) ∧ W.cell? ⟨w.heap.size + 1, 1, none⟩ = some (.int .i64 b.d.d) ∧ W.cell? ⟨w.heap.size + 1, 2, none⟩ = some (.int .i64 b.d.s)) := by
    intro W hW
    have hc : ∀ (p : Addr) (y : Value), w1.cell? p = some y → W.cell? p = some y := fun p y h2 => (hW.below.cell (World.block_lt_of_cell? _ _ h2)).trans h2
    exact ⟨hc _ _ c0, hc _ _ c1, hc _ _ c2, hc _ _ c3, hc _ _ c4, hc _ _ c5⟩
  have hg1 := (Grown.refl w1).drew
  have HG0 := Lib.hid hg0
  clear hg0
  go_enter Tryz.func178, Tryz.ntmps178
  go_wp2_with fail
  rw [← hw1]
  clear hw1
  go_region_held3 (fun W => Grown w1 W ∧ W.cell? ⟨w.heap.size, 0, none⟩ = some (.int .i64 a.n) ∧ W.cell? ⟨w.heap.size, 1, none⟩ = some (.int .i64 a.d.d) ∧ W.cell? ⟨w.heap.size, 2, none⟩ = some (.int .i64 a.d.s) ∧ W.cell? ⟨w.heap.size + 1, 0, none⟩ = some (.int .i64 b.n) ∧ W.cell? ⟨w.heap.size + 1, 1, none⟩ = some (.int .i64 b.d.d) ∧ W.cell? ⟨w.heap.size + 1, 2, none⟩ = some (.int .i64 b.d.s))
    (first
      | (refine ⟨?_, K.out _ ?_⟩ <;> (go_split_ands; (first | assumption | exact Grown.alloc (by assumption) _))))
    (first
      | (go_at_call 73; refine (P.out _ _ _).mono ?_; rintro e wx ⟨rfl, rfl⟩)
      | (go_at_call 72; refine (OR.out _ _ _ _).mono ?_; rintro e wx ⟨rfl, rfl⟩))
  all_goals
    go_wp2
    go_ret
    exact ⟨rfl, Grown.trans HG0.out (Grown.drew (Grown.alloc (Grown.refl _) _))⟩
end Go.Proofs.YtfljhnalmiibeaaGreat

namespace Go.Proofs.YtfljhnalmiibeaaGreat
set_option maxRecDepth 100000
open Go.RowKit Go.Sort
set_option maxHeartbeats 3200000 in
theorem ahead_any (s : Sp) (x : P11) (w : World) : Calls Tryz.prog 162 #[s.agg, x.agg] w fun e w' => e = .returned (.bool (ltQ s (spP x))) ∧ Grown w w' := by
  obtain ⟨w2, hw2⟩ : ∃ w2, w2 = (w.alloc (spotRow s)).alloc (partCells x) := ⟨_, rfl⟩
  have HG : Hid (Grown w w2) := by rw [hw2]; exact ((Grown.refl w).alloc _).alloc _
  obtain ⟨q0_0, q0_1, q0_2⟩ := spot_row (show w2.heap[w.heap.size]? = some (spotRow s) from by rw [hw2]; exact old_at _ (heap_alloc_new w _))
  obtain ⟨q1_0, q1_1, q1_2, q1_3, q1_4, q1_5, q1_6, q1_7, q1_8, q1_9, q1_10⟩ := part_row (show w2.heap[w.heap.size + 1]? = some (partCells x) from by rw [hw2]; exact new_at _ _ _ (by simp))
  have K : Hid (∀ W, Grown w2 W → (Grown w2 W ∧ W.cell? ⟨w.heap.size, 0, none⟩ = some (.int .i64 s.n) ∧ W.cell? ⟨w.heap.size, 1, none⟩ = some (.int .i64 s.d.d) ∧ W.cell? ⟨w.heap.size, 2, none⟩ = some (.int .i64 s.d.s) ∧ W.cell? ⟨w.heap.size + 1, 0, none⟩ = some (.int .i64 x.v.k) ∧ W.cell? ⟨w.heap.size + 1, 1, none⟩ = some (.int .i64 x.v.n) ∧ W.cell? ⟨w.heap.size + 1, 2, none⟩ = some (.string x.v.s) ∧ W.cell? ⟨w.heap.size + 1, 3, none⟩ = some (.int .i64 x.d.d) ∧ W.cell? ⟨w.heap.size + 1, 4, none⟩ = some (.int .i64 x.d.s) ∧ W.cell? ⟨w.heap.size + 1, 5, none⟩ = some (.int .i64 x.i) ∧ W.cell? ⟨w.heap.size + 1, 6, none⟩ = some (.int .i64 x.t) ∧ W.cell? ⟨w.heap.size + 1, 7, none⟩ = some (.int .i64 x.a.d) ∧ W.cell? ⟨w.heap.size + 1, 8, none⟩ = some (.int .i64 x.a.s) ∧ W.cell? ⟨w.heap.size + 1, 9, none⟩ = some (.int .i64 x.j) ∧ W.cell? ⟨w.heap.size + 1, 10, none⟩ = some (.bool x.g))) := by
    intro W hW
    have hc : ∀ (p : Addr) (y : Value), w2.cell? p = some y → W.cell? p = some y := fun p y h2 => (hW.below.cell (World.block_lt_of_cell? _ _ h2)).trans h2
    exact ⟨hW, hc _ _ q0_0, hc _ _ q0_1, hc _ _ q0_2, hc _ _ q1_0, hc _ _ q1_1, hc _ _ q1_2, hc _ _ q1_3, hc _ _ q1_4, hc _ _ q1_5, hc _ _ q1_6, hc _ _ q1_7, hc _ _ q1_8, hc _ _ q1_9, hc _ _ q1_10⟩
  have C := Lib.hid (fun W => spotOf_any x W)
  obtain ⟨r, hr, D⟩ : ∃ r, cmpQ s (spP x) = r ∧ Hid (∀ W, Calls Tryz.prog 178 #[s.agg, (spP x).agg] W fun e w' => e = .returned (.int .i64 r) ∧ Grown W w') := ⟨_, rfl, fun W => compareB_any s (spP x) W⟩
  rw [show ltQ s (spP x) = decide (r < 0) by rw [← hr, cmpQ_lt]]
  clear hr
  replace hw2 := Lib.hid hw2
  go_enter Tryz.func162, Tryz.ntmps162
  go_upto_region 1 with fail
  rw [show (w.alloc (spotRow s)).alloc (partCells x) = w2 from hw2.out.symm]
  clear hw2
  go_region_held3 (fun W => Grown w2 W ∧ W.cell? ⟨w.heap.size, 0, none⟩ = some (.int .i64 s.n) ∧ W.cell? ⟨w.heap.size, 1, none⟩ = some (.int .i64 s.d.d) ∧ W.cell? ⟨w.heap.size, 2, none⟩ = some (.int .i64 s.d.s) ∧ W.cell? ⟨w.heap.size + 1, 0, none⟩ = some (.int .i64 x.v.k) ∧ W.cell? ⟨w.heap.size + 1, 1, none⟩ = some (.int .i64 x.v.n) ∧ W.cell? ⟨w.heap.size + 1, 2, none⟩ = some (.string x.v.s) ∧ W.cell? ⟨w.heap.size + 1, 3, none⟩ = some (.int .i64 x.d.d) ∧ W.cell? ⟨w.heap.size + 1, 4, none⟩ = some (.int .i64 x.d.s) ∧ W.cell? ⟨w.heap.size + 1, 5, none⟩ = some (.int .i64 x.i) ∧ W.cell? ⟨w.heap.size + 1, 6, none⟩ = some (.int .i64 x.t) ∧ W.cell? ⟨w.heap.size + 1, 7, none⟩ = some (.int .i64 x.a.d) ∧ W.cell? ⟨w.heap.size + 1, 8, none⟩ = some (.int .i64 x.a.s) ∧ W.cell? ⟨w.heap.size + 1, 9, none⟩ = some (.int .i64 x.j) ∧ W.cell? ⟨w.heap.size + 1, 10, none⟩ = some (.bool x.g))
    (first
      | exact K.out _ ((Grown.refl _).drew)
      | exact K.out _ (Grown.trans (by go_split_ands; assumption) bb)
      | exact K.out _ (Grown.alloc (by go_split_ands; assumption) _)
      | assumption)
    (first
      | (go_at_call 161; refine (C.out _).mono ?_; rintro e wx ⟨rfl, bb⟩)
      | (go_at_call 178; refine (D.out _).mono ?_; rintro e wx ⟨rfl, bb⟩))
  have hSz : Grown w2 wx ∧ wx.cell? ⟨w.heap.size, 0, none⟩ = some (.int .i64 s.n) ∧ wx.cell? ⟨w.heap.size, 1, none⟩ = some (.int .i64 s.d.d) ∧ wx.cell? ⟨w.heap.size, 2, none⟩ = some (.int .i64 s.d.s) ∧ wx.cell? ⟨w.heap.size + 1, 0, none⟩ = some (.int .i64 x.v.k) ∧ wx.cell? ⟨w.heap.size + 1, 1, none⟩ = some (.int .i64 x.v.n) ∧ wx.cell? ⟨w.heap.size + 1, 2, none⟩ = some (.string x.v.s) ∧ wx.cell? ⟨w.heap.size + 1, 3, none⟩ = some (.int .i64 x.d.d) ∧ wx.cell? ⟨w.heap.size + 1, 4, none⟩ = some (.int .i64 x.d.s) ∧ wx.cell? ⟨w.heap.size + 1, 5, none⟩ = some (.int .i64 x.i) ∧ wx.cell? ⟨w.heap.size + 1, 6, none⟩ = some (.int .i64 x.t) ∧ wx.cell? ⟨w.heap.size + 1, 7, none⟩ = some (.int .i64 x.a.d) ∧ wx.cell? ⟨w.heap.size + 1, 8, none⟩ = some (.int .i64 x.a.s) ∧ wx.cell? ⟨w.heap.size + 1, 9, none⟩ = some (.int .i64 x.j) ∧ wx.cell? ⟨w.heap.size + 1, 10, none⟩ = some (.bool x.g) := by assumption
  have HZ := Lib.hid (Grown.trans HG.out hSz.1)
  clear hSz
  go_wp2_with fail
  go_ret
  exact ⟨rfl, HZ.out⟩
end Go.Proofs.YtfljhnalmiibeaaGreat

namespace Go.Proofs.YtfljhnalmiibeaaGreat
set_option maxRecDepth 100000
open Go.RowKit Go.Sort Srt
set_option maxHeartbeats 1600000 in
theorem rightPartB_any (p : P11) (w : World) :
    Calls Tryz.prog 160 #[p.agg] w fun e w' => e = .returned (.bool (okB p)) ∧ Below w.heap.size w w' := by
  obtain ⟨w1, hw1⟩ : ∃ w1, w1 = w.alloc (partCells p) := ⟨_, rfl⟩
  have h0 : w1.heap[w.heap.size]? = some (partCells p) := by rw [hw1]; exact heap_alloc_new _ _
  obtain ⟨x0, x1, x2, x3, x4, x5, x6, x7, x8, x9, x10⟩ := part_row h0
  have B : Hid (Below w.heap.size w w1) := by rw [hw1]; exact below_new (Below.refl _ _) _
  obtain ⟨q, hq⟩ : ∃ q, Hid (decide (p = part0 p.v p.d) = q) := ⟨_, rfl⟩
  have EQ : ∀ W, (Op.equalIn 10000 105 (.agg #[.int .i64 p.v.k, .int .i64 p.v.n, .string p.v.s, .int .i64 p.d.d, .int .i64 p.d.s, .int .i64 p.i, .int .i64 p.t, .int .i64 p.a.d, .int .i64 p.a.s, .int .i64 p.j, .bool p.g]) (.agg #[.int .i64 p.v.k, .int .i64 p.v.n, .string p.v.s, .int .i64 p.d.d, .int .i64 p.d.s, .int .i64 0, .int .i64 0, .int .i64 0, .int .i64 0, .int .i64 0, .bool false])).run Tryz.prog W = .ok q W := fun W => by rw [← hq.out]; exact run_equalIn_part p (part0 p.v p.d) W
  obtain ⟨r, hr, C⟩ : ∃ r, Hid (p.v.right = r) ∧ Hid (Calls Tryz.prog 128 #[.agg #[.int .i64 p.v.k, .int .i64 p.v.n, .string p.v.s]] w1 fun e w' => e = .returned (.bool r) ∧ Below w1.heap.size w1 w') := ⟨_, rfl, right_val p.v _⟩
  have K := Lib.hid (fun W (b : Below w1.heap.size w1 W) => part_row (row_below h0 b))
  obtain ⟨F, hF⟩ : ∃ F, Hid (okB p = F) := ⟨_, rfl⟩
  rw [hF.out]
  replace hw1 := Lib.hid hw1
  clear h0
  by_cases h0 : 1 ≤ p.d.d
  rotate_left
  · have HF : Hid (false = F) := by show _ = _; rw [← hF.out]; simp [okB, h0]
    have hd0 : decide (1 ≤ p.d.d) = false := decide_eq_false h0
    clear EQ C K
    go_enter Tryz.func160, Tryz.ntmps160
    go_upto_region 1 with fail
    rw [show w.alloc (partCells p) = w1 from hw1.out.symm]
    clear hw1
    go_wp2_with fail
    go_ret
    exact ⟨ret_bool HF.out, B.out⟩
  have hd0 : decide (1 ≤ p.d.d) = true := decide_eq_true h0
  by_cases h1 : p.d.d ≤ 64
  rotate_left
  · have HF : Hid (false = F) := by show _ = _; rw [← hF.out]; simp [okB, h1]
    have hd1 : decide (p.d.d ≤ 64) = false := decide_eq_false h1
    clear EQ C K
    go_enter Tryz.func160, Tryz.ntmps160
    go_upto_region 1 with fail
    rw [show w.alloc (partCells p) = w1 from hw1.out.symm]
    clear hw1
    go_wp2_with fail
    go_ret
    exact ⟨ret_bool HF.out, B.out⟩
  have hd1 : decide (p.d.d ≤ 64) = true := decide_eq_true h1
  by_cases h2 : 1 ≤ p.d.s
  rotate_left
  · have HF : Hid (false = F) := by show _ = _; rw [← hF.out]; simp [okB, h2]
    have hd2 : decide (1 ≤ p.d.s) = false := decide_eq_false h2
    clear EQ C K
    go_enter Tryz.func160, Tryz.ntmps160
    go_upto_region 1 with fail
    rw [show w.alloc (partCells p) = w1 from hw1.out.symm]
    clear hw1
    go_wp2_with fail
    go_ret
    exact ⟨ret_bool HF.out, B.out⟩
  have hd2 : decide (1 ≤ p.d.s) = true := decide_eq_true h2
  by_cases h3 : p.d.s ≤ 1048576
  rotate_left
  · have HF : Hid (false = F) := by show _ = _; rw [← hF.out]; simp [okB, h3]
    have hd3 : decide (p.d.s ≤ 1048576) = false := decide_eq_false h3
    clear EQ C K
    go_enter Tryz.func160, Tryz.ntmps160
    go_upto_region 1 with fail
    rw [show w.alloc (partCells p) = w1 from hw1.out.symm]
    clear hw1
    go_wp2_with fail
    go_ret
    exact ⟨ret_bool HF.out, B.out⟩
  have hd3 : decide (p.d.s ≤ 1048576) = true := decide_eq_true h3
  by_cases h4 : p.v.k = 1
  rotate_left
  · have HF : Hid (false = F) := by show _ = _; rw [← hF.out]; simp [okB, h4]
    have hd4 : (p.v.k == 1) = false := by simpa using h4
    clear EQ C K
    go_enter Tryz.func160, Tryz.ntmps160
    go_upto_region 1 with fail
    rw [show w.alloc (partCells p) = w1 from hw1.out.symm]
    clear hw1
    go_wp2_with fail
    go_ret
    exact ⟨ret_bool HF.out, B.out⟩
  have hd4 : (p.v.k == 1) = true := by simpa using h4
  have H4 := Lib.hid h4
  have HF : Hid ((r && q) = F) := by show _ = _; rw [← hF.out, ← hr.out, ← hq.out]; simp [okB, h0, h1, h2, h3, h4]
  clear h4
  go_enter Tryz.func160, Tryz.ntmps160
  go_upto_region 1 with fail
  rw [show w.alloc (partCells p) = w1 from hw1.out.symm]
  clear hw1
  go_wp2_with fail
  refine C.out.mono ?_
  rintro e w3 ⟨rfl, b3⟩
  obtain ⟨x0, x1, x2, x3, x4, x5, x6, x7, x8, x9, x10⟩ := K.out w3 b3
  have B3 := Lib.hid (below_then B.out b3)
  clear b3 C K
  cases r with
  | false =>
    have HF2 : Hid (false = F) := HF.out
    go_wp2_with fail
    go_ret
    exact ⟨ret_bool HF2.out, B3.out⟩
  | true =>
    have HF2 : Hid (q = F) := HF.out
    go_wp2_with fail
    go_ret
    exact ⟨ret_bool HF2.out, B3.out⟩
end Go.Proofs.YtfljhnalmiibeaaGreat

