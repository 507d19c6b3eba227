/- Layer 9: the functions of one part by which puts, takes, joins and sorts of sets go. -/
import Derived.Test.YtomdbjmbkfdcmaaMbBagMap
import Derived.Test.YtomdbjmbkfdcmaaMbMulM
import Derived.Test.YtomdbjmbkfdcmaaMbTail
import Derived.Deep.RegionHeld3
namespace Go.Proofs.Ytomdbjmbkfdcmaa
set_option maxRecDepth 100000
open Go.RowKit Go.Sort

set_option maxHeartbeats 3200000 in
theorem taken_any (s : Sp) (x : P11) (w : World) : Calls Try.prog 59 #[s.agg, x.agg] w fun e w' => e = .returned (.bool (decide (spP x = s))) ∧ Grown w w' := by
  obtain ⟨w2, hw2⟩ : ∃ w2, w2 = (w.alloc (spotRow s)).alloc (partCells x) := ⟨_, rfl⟩
  have HG : Hid (Grown w w2) := by rw [hw2]; exact ((Grown.refl w).alloc _).alloc _
  obtain ⟨q0_0, q0_1, q0_2⟩ := spot_row (show w2.heap[w.heap.size]? = some (spotRow s) from by rw [hw2]; exact old_at _ (heap_alloc_new w _))
  obtain ⟨q1_0, q1_1, q1_2, q1_3, q1_4, q1_5, q1_6, q1_7, q1_8, q1_9, q1_10⟩ := part_row (show w2.heap[w.heap.size + 1]? = some (partCells x) from by rw [hw2]; exact new_at _ _ _ (by simp))
  have K : Hid (∀ W, Grown w2 W → (Grown w2 W ∧ W.cell? ⟨w.heap.size, 0, none⟩ = some (.int .i64 s.n) ∧ W.cell? ⟨w.heap.size, 1, none⟩ = some (.int .i64 s.d.d) ∧ W.cell? ⟨w.heap.size, 2, none⟩ = some (.int .i64 s.d.s) ∧ W.cell? ⟨w.heap.size + 1, 0, none⟩ = some (.int .i64 x.v.k) ∧ W.cell? ⟨w.heap.size + 1, 1, none⟩ = some (.int .i64 x.v.n) ∧ W.cell? ⟨w.heap.size + 1, 2, none⟩ = some (.string x.v.s) ∧ W.cell? ⟨w.heap.size + 1, 3, none⟩ = some (.int .i64 x.d.d) ∧ W.cell? ⟨w.heap.size + 1, 4, none⟩ = some (.int .i64 x.d.s) ∧ W.cell? ⟨w.heap.size + 1, 5, none⟩ = some (.int .i64 x.i) ∧ W.cell? ⟨w.heap.size + 1, 6, none⟩ = some (.int .i64 x.t) ∧ W.cell? ⟨w.heap.size + 1, 7, none⟩ = some (.int .i64 x.a.d) ∧ W.cell? ⟨w.heap.size + 1, 8, none⟩ = some (.int .i64 x.a.s) ∧ W.cell? ⟨w.heap.size + 1, 9, none⟩ = some (.int .i64 x.j) ∧ W.cell? ⟨w.heap.size + 1, 10, none⟩ = some (.bool x.g))) := by
    intro W hW
    have hc : ∀ (p : Addr) (y : Value), w2.cell? p = some y → W.cell? p = some y := fun p y h2 => (hW.below.cell (World.block_lt_of_cell? _ _ h2)).trans h2
    exact ⟨hW, hc _ _ q0_0, hc _ _ q0_1, hc _ _ q0_2, hc _ _ q1_0, hc _ _ q1_1, hc _ _ q1_2, hc _ _ q1_3, hc _ _ q1_4, hc _ _ q1_5, hc _ _ q1_6, hc _ _ q1_7, hc _ _ q1_8, hc _ _ q1_9, hc _ _ q1_10⟩
  have C := Lib.hid (fun W => spotOf_any x W)
  have EQ : ∀ W, (Op.equalIn 10000 70 (.agg #[.int .i64 s.n, .int .i64 s.d.d, .int .i64 s.d.s]) (.agg #[.int .i64 (spP x).n, .int .i64 (spP x).d.d, .int .i64 (spP x).d.s])).run Try.prog W = .ok (decide (spP x = s)) W := fun W => by rw [show decide (spP x = s) = decide (s = spP x) from decide_eq_decide.2 eq_comm]; exact run_equalIn_spotF 9997 s (spP x) W
  obtain ⟨r, hr⟩ : ∃ r, decide (spP x = s) = r := ⟨_, rfl⟩
  rw [hr] at EQ ⊢
  clear hr
  replace hw2 := Lib.hid hw2
  go_enter Try.func59, Try.ntmps59
  go_upto_region 1 with fail
  rw [show (w.alloc (spotRow s)).alloc (partCells x) = w2 from hw2.out.symm]
  clear hw2
  go_region_held3 (fun W => Grown w2 W ∧ W.cell? ⟨w.heap.size, 0, none⟩ = some (.int .i64 s.n) ∧ W.cell? ⟨w.heap.size, 1, none⟩ = some (.int .i64 s.d.d) ∧ W.cell? ⟨w.heap.size, 2, none⟩ = some (.int .i64 s.d.s) ∧ W.cell? ⟨w.heap.size + 1, 0, none⟩ = some (.int .i64 x.v.k) ∧ W.cell? ⟨w.heap.size + 1, 1, none⟩ = some (.int .i64 x.v.n) ∧ W.cell? ⟨w.heap.size + 1, 2, none⟩ = some (.string x.v.s) ∧ W.cell? ⟨w.heap.size + 1, 3, none⟩ = some (.int .i64 x.d.d) ∧ W.cell? ⟨w.heap.size + 1, 4, none⟩ = some (.int .i64 x.d.s) ∧ W.cell? ⟨w.heap.size + 1, 5, none⟩ = some (.int .i64 x.i) ∧ W.cell? ⟨w.heap.size + 1, 6, none⟩ = some (.int .i64 x.t) ∧ W.cell? ⟨w.heap.size + 1, 7, none⟩ = some (.int .i64 x.a.d) ∧ W.cell? ⟨w.heap.size + 1, 8, none⟩ = some (.int .i64 x.a.s) ∧ W.cell? ⟨w.heap.size + 1, 9, none⟩ = some (.int .i64 x.j) ∧ W.cell? ⟨w.heap.size + 1, 10, none⟩ = some (.bool x.g))
    (first
      | exact K.out _ ((Grown.refl _).drew)
      | exact K.out _ (Grown.trans (by go_split_ands; assumption) bb)
      | exact K.out _ (Grown.alloc (by go_split_ands; assumption) _)
      | assumption)
    (first
      | (go_at_call 44; refine (C.out _).mono ?_; rintro e wx ⟨rfl, bb⟩))
  have hSz : Grown w2 wx ∧ wx.cell? ⟨w.heap.size, 0, none⟩ = some (.int .i64 s.n) ∧ wx.cell? ⟨w.heap.size, 1, none⟩ = some (.int .i64 s.d.d) ∧ wx.cell? ⟨w.heap.size, 2, none⟩ = some (.int .i64 s.d.s) ∧ wx.cell? ⟨w.heap.size + 1, 0, none⟩ = some (.int .i64 x.v.k) ∧ wx.cell? ⟨w.heap.size + 1, 1, none⟩ = some (.int .i64 x.v.n) ∧ wx.cell? ⟨w.heap.size + 1, 2, none⟩ = some (.string x.v.s) ∧ wx.cell? ⟨w.heap.size + 1, 3, none⟩ = some (.int .i64 x.d.d) ∧ wx.cell? ⟨w.heap.size + 1, 4, none⟩ = some (.int .i64 x.d.s) ∧ wx.cell? ⟨w.heap.size + 1, 5, none⟩ = some (.int .i64 x.i) ∧ wx.cell? ⟨w.heap.size + 1, 6, none⟩ = some (.int .i64 x.t) ∧ wx.cell? ⟨w.heap.size + 1, 7, none⟩ = some (.int .i64 x.a.d) ∧ wx.cell? ⟨w.heap.size + 1, 8, none⟩ = some (.int .i64 x.a.s) ∧ wx.cell? ⟨w.heap.size + 1, 9, none⟩ = some (.int .i64 x.j) ∧ wx.cell? ⟨w.heap.size + 1, 10, none⟩ = some (.bool x.g) := by assumption
  have HZ := Lib.hid (Grown.trans HG.out hSz.1)
  clear hSz
  go_wp2_with fail
  go_ret
  exact ⟨rfl, HZ.out⟩

set_option maxHeartbeats 3200000 in
theorem ahead_any (s : Sp) (x : P11) (w : World) : Calls Try.prog 45 #[s.agg, x.agg] w fun e w' => e = .returned (.bool (ltQ s (spP x))) ∧ Grown w w' := by
  obtain ⟨w2, hw2⟩ : ∃ w2, w2 = (w.alloc (spotRow s)).alloc (partCells x) := ⟨_, rfl⟩
  have HG : Hid (Grown w w2) := by rw [hw2]; exact ((Grown.refl w).alloc _).alloc _
  obtain ⟨q0_0, q0_1, q0_2⟩ := spot_row (show w2.heap[w.heap.size]? = some (spotRow s) from by rw [hw2]; exact old_at _ (heap_alloc_new w _))
  obtain ⟨q1_0, q1_1, q1_2, q1_3, q1_4, q1_5, q1_6, q1_7, q1_8, q1_9, q1_10⟩ := part_row (show w2.heap[w.heap.size + 1]? = some (partCells x) from by rw [hw2]; exact new_at _ _ _ (by simp))
  have K : Hid (∀ W, Grown w2 W → (Grown w2 W ∧ W.cell? ⟨w.heap.size, 0, none⟩ = some (.int .i64 s.n) ∧ W.cell? ⟨w.heap.size, 1, none⟩ = some (.int .i64 s.d.d) ∧ W.cell? ⟨w.heap.size, 2, none⟩ = some (.int .i64 s.d.s) ∧ W.cell? ⟨w.heap.size + 1, 0, none⟩ = some (.int .i64 x.v.k) ∧ W.cell? ⟨w.heap.size + 1, 1, none⟩ = some (.int .i64 x.v.n) ∧ W.cell? ⟨w.heap.size + 1, 2, none⟩ = some (.string x.v.s) ∧ W.cell? ⟨w.heap.size + 1, 3, none⟩ = some (.int .i64 x.d.d) ∧ W.cell? ⟨w.heap.size + 1, 4, none⟩ = some (.int .i64 x.d.s) ∧ W.cell? ⟨w.heap.size + 1, 5, none⟩ = some (.int .i64 x.i) ∧ W.cell? ⟨w.heap.size + 1, 6, none⟩ = some (.int .i64 x.t) ∧ W.cell? ⟨w.heap.size + 1, 7, none⟩ = some (.int .i64 x.a.d) ∧ W.cell? ⟨w.heap.size + 1, 8, none⟩ = some (.int .i64 x.a.s) ∧ W.cell? ⟨w.heap.size + 1, 9, none⟩ = some (.int .i64 x.j) ∧ W.cell? ⟨w.heap.size + 1, 10, none⟩ = some (.bool x.g))) := by
    intro W hW
    have hc : ∀ (p : Addr) (y : Value), w2.cell? p = some y → W.cell? p = some y := fun p y h2 => (hW.below.cell (World.block_lt_of_cell? _ _ h2)).trans h2
    exact ⟨hW, hc _ _ q0_0, hc _ _ q0_1, hc _ _ q0_2, hc _ _ q1_0, hc _ _ q1_1, hc _ _ q1_2, hc _ _ q1_3, hc _ _ q1_4, hc _ _ q1_5, hc _ _ q1_6, hc _ _ q1_7, hc _ _ q1_8, hc _ _ q1_9, hc _ _ q1_10⟩
  have C := Lib.hid (fun W => spotOf_any x W)
  obtain ⟨r, hr, D⟩ : ∃ r, cmpQ s (spP x) = r ∧ Hid (∀ W, Calls Try.prog 55 #[s.agg, (spP x).agg] W fun e w' => e = .returned (.int .i64 r) ∧ Grown W w') := ⟨_, rfl, fun W => compareB_any s (spP x) W⟩
  rw [show ltQ s (spP x) = decide (r < 0) by rw [← hr, cmpQ_lt]]
  clear hr
  replace hw2 := Lib.hid hw2
  go_enter Try.func45, Try.ntmps45
  go_upto_region 1 with fail
  rw [show (w.alloc (spotRow s)).alloc (partCells x) = w2 from hw2.out.symm]
  clear hw2
  go_region_held3 (fun W => Grown w2 W ∧ W.cell? ⟨w.heap.size, 0, none⟩ = some (.int .i64 s.n) ∧ W.cell? ⟨w.heap.size, 1, none⟩ = some (.int .i64 s.d.d) ∧ W.cell? ⟨w.heap.size, 2, none⟩ = some (.int .i64 s.d.s) ∧ W.cell? ⟨w.heap.size + 1, 0, none⟩ = some (.int .i64 x.v.k) ∧ W.cell? ⟨w.heap.size + 1, 1, none⟩ = some (.int .i64 x.v.n) ∧ W.cell? ⟨w.heap.size + 1, 2, none⟩ = some (.string x.v.s) ∧ W.cell? ⟨w.heap.size + 1, 3, none⟩ = some (.int .i64 x.d.d) ∧ W.cell? ⟨w.heap.size + 1, 4, none⟩ = some (.int .i64 x.d.s) ∧ W.cell? ⟨w.heap.size + 1, 5, none⟩ = some (.int .i64 x.i) ∧ W.cell? ⟨w.heap.size + 1, 6, none⟩ = some (.int .i64 x.t) ∧ W.cell? ⟨w.heap.size + 1, 7, none⟩ = some (.int .i64 x.a.d) ∧ W.cell? ⟨w.heap.size + 1, 8, none⟩ = some (.int .i64 x.a.s) ∧ W.cell? ⟨w.heap.size + 1, 9, none⟩ = some (.int .i64 x.j) ∧ W.cell? ⟨w.heap.size + 1, 10, none⟩ = some (.bool x.g))
    (first
      | exact K.out _ ((Grown.refl _).drew)
      | exact K.out _ (Grown.trans (by go_split_ands; assumption) bb)
      | exact K.out _ (Grown.alloc (by go_split_ands; assumption) _)
      | assumption)
    (first
      | (go_at_call 44; refine (C.out _).mono ?_; rintro e wx ⟨rfl, bb⟩)
      | (go_at_call 55; refine (D.out _).mono ?_; rintro e wx ⟨rfl, bb⟩))
  have hSz : Grown w2 wx ∧ wx.cell? ⟨w.heap.size, 0, none⟩ = some (.int .i64 s.n) ∧ wx.cell? ⟨w.heap.size, 1, none⟩ = some (.int .i64 s.d.d) ∧ wx.cell? ⟨w.heap.size, 2, none⟩ = some (.int .i64 s.d.s) ∧ wx.cell? ⟨w.heap.size + 1, 0, none⟩ = some (.int .i64 x.v.k) ∧ wx.cell? ⟨w.heap.size + 1, 1, none⟩ = some (.int .i64 x.v.n) ∧ wx.cell? ⟨w.heap.size + 1, 2, none⟩ = some (.string x.v.s) ∧ wx.cell? ⟨w.heap.size + 1, 3, none⟩ = some (.int .i64 x.d.d) ∧ wx.cell? ⟨w.heap.size + 1, 4, none⟩ = some (.int .i64 x.d.s) ∧ wx.cell? ⟨w.heap.size + 1, 5, none⟩ = some (.int .i64 x.i) ∧ wx.cell? ⟨w.heap.size + 1, 6, none⟩ = some (.int .i64 x.t) ∧ wx.cell? ⟨w.heap.size + 1, 7, none⟩ = some (.int .i64 x.a.d) ∧ wx.cell? ⟨w.heap.size + 1, 8, none⟩ = some (.int .i64 x.a.s) ∧ wx.cell? ⟨w.heap.size + 1, 9, none⟩ = some (.int .i64 x.j) ∧ wx.cell? ⟨w.heap.size + 1, 10, none⟩ = some (.bool x.g) := by assumption
  have HZ := Lib.hid (Grown.trans HG.out hSz.1)
  clear hSz
  go_wp2_with fail
  go_ret
  exact ⟨rfl, HZ.out⟩

set_option maxHeartbeats 3200000 in
theorem joinB1_any (x y : P11) (w : World) : Calls Try.prog 54 #[x.agg, y.agg] w fun e w' => e = .returned (.int .i64 (cmpQ (spP x) (spP y))) ∧ Grown w w' := by
  obtain ⟨w2, hw2⟩ : ∃ w2, w2 = (w.alloc (partCells x)).alloc (partCells y) := ⟨_, rfl⟩
  have HG : Hid (Grown w w2) := by rw [hw2]; exact ((Grown.refl w).alloc _).alloc _
  obtain ⟨q0_0, q0_1, q0_2, q0_3, q0_4, q0_5, q0_6, q0_7, q0_8, q0_9, q0_10⟩ := part_row (show w2.heap[w.heap.size]? = some (partCells x) from by rw [hw2]; exact old_at _ (heap_alloc_new w _))
  obtain ⟨q1_0, q1_1, q1_2, q1_3, q1_4, q1_5, q1_6, q1_7, q1_8, q1_9, q1_10⟩ := part_row (show w2.heap[w.heap.size + 1]? = some (partCells y) from by rw [hw2]; exact new_at _ _ _ (by simp))
  have K : Hid (∀ W, Grown w2 W → (Grown w2 W ∧ W.cell? ⟨w.heap.size, 0, none⟩ = some (.int .i64 x.v.k) ∧ W.cell? ⟨w.heap.size, 1, none⟩ = some (.int .i64 x.v.n) ∧ W.cell? ⟨w.heap.size, 2, none⟩ = some (.string x.v.s) ∧ W.cell? ⟨w.heap.size, 3, none⟩ = some (.int .i64 x.d.d) ∧ W.cell? ⟨w.heap.size, 4, none⟩ = some (.int .i64 x.d.s) ∧ W.cell? ⟨w.heap.size, 5, none⟩ = some (.int .i64 x.i) ∧ W.cell? ⟨w.heap.size, 6, none⟩ = some (.int .i64 x.t) ∧ W.cell? ⟨w.heap.size, 7, none⟩ = some (.int .i64 x.a.d) ∧ W.cell? ⟨w.heap.size, 8, none⟩ = some (.int .i64 x.a.s) ∧ W.cell? ⟨w.heap.size, 9, none⟩ = some (.int .i64 x.j) ∧ W.cell? ⟨w.heap.size, 10, none⟩ = some (.bool x.g) ∧ W.cell? ⟨w.heap.size + 1, 0, none⟩ = some (.int .i64 y.v.k) ∧ W.cell? ⟨w.heap.size + 1, 1, none⟩ = some (.int .i64 y.v.n) ∧ W.cell? ⟨w.heap.size + 1, 2, none⟩ = some (.string y.v.s) ∧ W.cell? ⟨w.heap.size + 1, 3, none⟩ = some (.int .i64 y.d.d) ∧ W.cell? ⟨w.heap.size + 1, 4, none⟩ = some (.int .i64 y.d.s) ∧ W.cell? ⟨w.heap.size + 1, 5, none⟩ = some (.int .i64 y.i) ∧ W.cell? ⟨w.heap.size + 1, 6, none⟩ = some (.int .i64 y.t) ∧ W.cell? ⟨w.heap.size + 1, 7, none⟩ = some (.int .i64 y.a.d) ∧ W.cell? ⟨w.heap.size + 1, 8, none⟩ = some (.int .i64 y.a.s) ∧ W.cell? ⟨w.heap.size + 1, 9, none⟩ = some (.int .i64 y.j) ∧ W.cell? ⟨w.heap.size + 1, 10, none⟩ = some (.bool y.g))) := by
    intro W hW
    have hc : ∀ (p : Addr) (y : Value), w2.cell? p = some y → W.cell? p = some y := fun p y h2 => (hW.below.cell (World.block_lt_of_cell? _ _ h2)).trans h2
    exact ⟨hW, hc _ _ q0_0, hc _ _ q0_1, hc _ _ q0_2, hc _ _ q0_3, hc _ _ q0_4, hc _ _ q0_5, hc _ _ q0_6, hc _ _ q0_7, hc _ _ q0_8, hc _ _ q0_9, hc _ _ q0_10, hc _ _ q1_0, hc _ _ q1_1, hc _ _ q1_2, hc _ _ q1_3, hc _ _ q1_4, hc _ _ q1_5, hc _ _ q1_6, hc _ _ q1_7, hc _ _ q1_8, hc _ _ q1_9, hc _ _ q1_10⟩
  have C := Lib.hid (fun z W => spotOf_any z W)
  obtain ⟨r, hr, D⟩ : ∃ r, cmpQ (spP x) (spP y) = r ∧ Hid (∀ W, Calls Try.prog 55 #[(spP x).agg, (spP y).agg] W fun e w' => e = .returned (.int .i64 r) ∧ Grown W w') := ⟨_, rfl, fun W => compareB_any (spP x) (spP y) W⟩
  rw [hr]
  clear hr
  replace hw2 := Lib.hid hw2
  go_enter Try.func54, Try.ntmps54
  go_upto_region 1 with fail
  rw [show (w.alloc (partCells x)).alloc (partCells y) = w2 from hw2.out.symm]
  clear hw2
  go_region_held3 (fun W => Grown w2 W ∧ W.cell? ⟨w.heap.size, 0, none⟩ = some (.int .i64 x.v.k) ∧ W.cell? ⟨w.heap.size, 1, none⟩ = some (.int .i64 x.v.n) ∧ W.cell? ⟨w.heap.size, 2, none⟩ = some (.string x.v.s) ∧ W.cell? ⟨w.heap.size, 3, none⟩ = some (.int .i64 x.d.d) ∧ W.cell? ⟨w.heap.size, 4, none⟩ = some (.int .i64 x.d.s) ∧ W.cell? ⟨w.heap.size, 5, none⟩ = some (.int .i64 x.i) ∧ W.cell? ⟨w.heap.size, 6, none⟩ = some (.int .i64 x.t) ∧ W.cell? ⟨w.heap.size, 7, none⟩ = some (.int .i64 x.a.d) ∧ W.cell? ⟨w.heap.size, 8, none⟩ = some (.int .i64 x.a.s) ∧ W.cell? ⟨w.heap.size, 9, none⟩ = some (.int .i64 x.j) ∧ W.cell? ⟨w.heap.size, 10, none⟩ = some (.bool x.g) ∧ W.cell? ⟨w.heap.size + 1, 0, none⟩ = some (.int .i64 y.v.k) ∧ W.cell? ⟨w.heap.size + 1, 1, none⟩ = some (.int .i64 y.v.n) ∧ W.cell? ⟨w.heap.size + 1, 2, none⟩ = some (.string y.v.s) ∧ W.cell? ⟨w.heap.size + 1, 3, none⟩ = some (.int .i64 y.d.d) ∧ W.cell? ⟨w.heap.size + 1, 4, none⟩ = some (.int .i64 y.d.s) ∧ W.cell? ⟨w.heap.size + 1, 5, none⟩ = some (.int .i64 y.i) ∧ W.cell? ⟨w.heap.size + 1, 6, none⟩ = some (.int .i64 y.t) ∧ W.cell? ⟨w.heap.size + 1, 7, none⟩ = some (.int .i64 y.a.d) ∧ W.cell? ⟨w.heap.size + 1, 8, none⟩ = some (.int .i64 y.a.s) ∧ W.cell? ⟨w.heap.size + 1, 9, none⟩ = some (.int .i64 y.j) ∧ W.cell? ⟨w.heap.size + 1, 10, none⟩ = some (.bool y.g))
    (first
      | exact K.out _ ((Grown.refl _).drew)
      | exact K.out _ (Grown.trans (by go_split_ands; assumption) bb)
      | exact K.out _ (Grown.alloc (by go_split_ands; assumption) _)
      | assumption)
    (first
      | (go_at_call 44; refine (C.out _ _).mono ?_; rintro e wx ⟨rfl, bb⟩)
      | (go_at_call 55; refine (D.out _).mono ?_; rintro e wx ⟨rfl, bb⟩))
  have hSz : Grown w2 wx ∧ wx.cell? ⟨w.heap.size, 0, none⟩ = some (.int .i64 x.v.k) ∧ wx.cell? ⟨w.heap.size, 1, none⟩ = some (.int .i64 x.v.n) ∧ wx.cell? ⟨w.heap.size, 2, none⟩ = some (.string x.v.s) ∧ wx.cell? ⟨w.heap.size, 3, none⟩ = some (.int .i64 x.d.d) ∧ wx.cell? ⟨w.heap.size, 4, none⟩ = some (.int .i64 x.d.s) ∧ wx.cell? ⟨w.heap.size, 5, none⟩ = some (.int .i64 x.i) ∧ wx.cell? ⟨w.heap.size, 6, none⟩ = some (.int .i64 x.t) ∧ wx.cell? ⟨w.heap.size, 7, none⟩ = some (.int .i64 x.a.d) ∧ wx.cell? ⟨w.heap.size, 8, none⟩ = some (.int .i64 x.a.s) ∧ wx.cell? ⟨w.heap.size, 9, none⟩ = some (.int .i64 x.j) ∧ wx.cell? ⟨w.heap.size, 10, none⟩ = some (.bool x.g) ∧ wx.cell? ⟨w.heap.size + 1, 0, none⟩ = some (.int .i64 y.v.k) ∧ wx.cell? ⟨w.heap.size + 1, 1, none⟩ = some (.int .i64 y.v.n) ∧ wx.cell? ⟨w.heap.size + 1, 2, none⟩ = some (.string y.v.s) ∧ wx.cell? ⟨w.heap.size + 1, 3, none⟩ = some (.int .i64 y.d.d) ∧ wx.cell? ⟨w.heap.size + 1, 4, none⟩ = some (.int .i64 y.d.s) ∧ wx.cell? ⟨w.heap.size + 1, 5, none⟩ = some (.int .i64 y.i) ∧ wx.cell? ⟨w.heap.size + 1, 6, none⟩ = some (.int .i64 y.t) ∧ wx.cell? ⟨w.heap.size + 1, 7, none⟩ = some (.int .i64 y.a.d) ∧ wx.cell? ⟨w.heap.size + 1, 8, none⟩ = some (.int .i64 y.a.s) ∧ wx.cell? ⟨w.heap.size + 1, 9, none⟩ = some (.int .i64 y.j) ∧ wx.cell? ⟨w.heap.size + 1, 10, none⟩ = some (.bool y.g) := by assumption
  have HZ := Lib.hid (Grown.trans HG.out hSz.1)
  clear hSz
  go_wp2_with fail
  go_ret
  exact ⟨rfl, HZ.out⟩

end Go.Proofs.Ytomdbjmbkfdcmaa

