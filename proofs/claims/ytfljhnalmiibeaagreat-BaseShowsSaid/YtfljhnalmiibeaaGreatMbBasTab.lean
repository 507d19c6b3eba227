/- Several texts laid together: BasTab, BasIdx. -/
import Derived.Test.YtfljhnalmiibeaaGreatMbBasOwn
import Derived.Test.YtfljhnalmiibeaaGreatMbMulCmp
namespace Go.Proofs.YtfljhnalmiibeaaGreat
set_option maxRecDepth 100000
open Go.RowKit
theorem below_put {w w' : World} {B : Nat} (h : Below B w w') (g j : Nat) (v : Value) (hg : B ≤ g) : Below B w (w'.setCell ⟨g, j, none⟩ v) := h.setCell hg v
theorem set1row {w : World} {g : Nat} {a x : Value} {t : TypeId} {fr : Nat × Nat} (h : w.heap[g]? = some (.cells #[a] t fr)) : (w.setCell ⟨g, 0, none⟩ x).heap[g]? = some (.cells #[x] t fr) := by
  rw [set_row h 0 x]
  rfl
theorem there_any (lA : Option Addr) (ln lc : Nat) (A : Option Addr) (n c : Nat) (t : Int) (w : World) :
    Calls Tryz.prog 58 #[tableV lA ln lc A n c t] w fun e w' => e = .returned (.bool (decide (0 ≤ t) && decide (t < (n : Int)))) ∧ Below w.heap.size w w' := by
  obtain ⟨w1, hw1⟩ : ∃ w1, w1 = w.alloc (tableBox lA ln lc A n c t) := ⟨_, rfl⟩
  have HW := Lib.hid hw1
  have r0 : w1.heap[w.heap.size]? = some (tableBox lA ln lc A n c t) := by rw [hw1]; exact heap_alloc_new _ _
  have HB : Hid (Below w.heap.size w w1) := by rw [hw1]; exact below_new (Below.refl _ _) _
  obtain ⟨p0, p1, p2⟩ := table_row r0
  clear hw1 r0
  by_cases h0 : 0 ≤ t
  · by_cases h1 : t < (n : Int)
    · have e0 : decide (0 ≤ t) = true := decide_eq_true h0
      have e1 : decide (t < (n : Int)) = true := decide_eq_true h1
      rw [e0, e1]
      go_enter Tryz.func58, Tryz.ntmps58
      go_upto_region 1 with fail
      rw [show w.alloc (tableBox lA ln lc A n c t) = w1 from HW.out.symm]
      clear HW
      go_wp2_with fail
      go_ret
      exact ⟨rfl, HB.out⟩
    · have e0 : decide (0 ≤ t) = true := decide_eq_true h0
      have e1 : decide (t < (n : Int)) = false := decide_eq_false h1
      rw [e0, e1]
      go_enter Tryz.func58, Tryz.ntmps58
      go_upto_region 1 with fail
      rw [show w.alloc (tableBox lA ln lc A n c t) = w1 from HW.out.symm]
      clear HW
      go_wp2_with fail
      go_ret
      exact ⟨rfl, HB.out⟩
  · have e0 : decide (0 ≤ t) = false := decide_eq_false h0
    rw [e0]
    go_enter Tryz.func58, Tryz.ntmps58
    go_upto_region 1 with fail
    rw [show w.alloc (tableBox lA ln lc A n c t) = w1 from HW.out.symm]
    clear HW
    go_wp2_with fail
    go_ret
    exact ⟨rfl, HB.out⟩
theorem linesB_at {b : List (List LQ)} {k : Nat} {l : List LQ} (h : b[k]? = some l) : linesB b (k : Int) = l := by
  unfold linesB
  rw [if_pos (by omega), Int.toNat_natCast, List.getD_eq_getElem?_getD, h]; rfl
theorem linesB_no {b : List (List LQ)} {t : Int} (h : ¬ (0 ≤ t ∧ t < (b.length : Int))) : linesB b t = [] := by
  unfold linesB
  split
  · rw [List.getD_eq_getElem?_getD, List.getElem?_eq_none (by omega)]; rfl
  · rfl
theorem setB_no {b : List (List LQ)} {t : Int} {l : List LQ} (h : ¬ (0 ≤ t ∧ t < (b.length : Int))) : setB b t l = b := by
  unfold setB
  split
  · rw [List.set_eq_of_length_le (by omega)]
  · rfl
theorem setB_at {b : List (List LQ)} {k : Nat} {l : List LQ} : setB b (k : Int) l = b.set k l := by
  unfold setB
  rw [if_pos (by omega), Int.toNat_natCast]
set_option maxHeartbeats 1600000 in
theorem tableOf_any (A : Option Addr) (n c : Nat) (b : List (List LQ)) (t : Int) (w0 w : World) (h : RdB w0 A n c b) (hw : Below w0.heap.size w0 w) :
    Calls Tryz.prog 33 #[.agg #[.slice A n c], .int .i64 t] w fun e w' => ∃ (x : SlR), e = .returned (tableV x.a x.n x.c A n c t) ∧ RdLs w0 x.a x.n x.c (linesB b t) ∧ Below w.heap.size w w' := by
  have hle := h.le
  have hlen := h.len
  obtain ⟨w1, hw1⟩ : ∃ w1, w1 = (w.alloc (baseBox A n c)).alloc (tableBox none 0 0 none 0 0 0) := ⟨_, rfl⟩
  have HW := Lib.hid hw1
  have r0 : w1.heap[w.heap.size]? = some (baseBox A n c) := by rw [hw1]; exact row_below (heap_alloc_new _ _) (below_new (Below.refl _ _) _)
  have r1 : w1.heap[w.heap.size + 1]? = some (tableBox none 0 0 none 0 0 0) := by rw [hw1]; have := heap_alloc_new (w.alloc (baseBox A n c)) (tableBox none 0 0 none 0 0 0); rwa [World.size_alloc] at this
  have b1 : Below w.heap.size w w1 := by rw [hw1]; exact below_new (below_new (Below.refl _ _) _) _
  have sz : w1.heap.size = w.heap.size + 1 + 1 := by rw [hw1]; simp only [World.size_alloc]
  obtain ⟨w2, hw2⟩ : ∃ w2, w2 = w1.alloc (tableBox none 0 0 A n c t) := ⟨_, rfl⟩
  have HW2 := Lib.hid hw2
  have b2 : Below w1.heap.size w1 w2 := by rw [hw2]; exact below_new (Below.refl _ _) _
  have r2 : w2.heap[w1.heap.size]? = some (tableBox none 0 0 A n c t) := by rw [hw2]; exact heap_alloc_new _ _
  have R0 := Lib.hid (row_below r0 b2); have R1 := Lib.hid (row_below r1 b2); have R2 := Lib.hid r2
  have HB := Lib.hid (below_then b1 b2)
  have HW0 := Lib.hid hw
  have p0 := base_row r0
  have HR := Lib.hid h
  obtain ⟨ll, hll⟩ : ∃ ll, Hid (linesB b t = ll) := ⟨_, rfl⟩
  rw [hll.out]
  obtain ⟨g1, hg1⟩ : ∃ g, g = w.heap.size + 1 := ⟨_, rfl⟩
  obtain ⟨g2, hg2⟩ : ∃ g, g = w1.heap.size := ⟨_, rfl⟩
  have HG : Hid (w.heap.size < g1 ∧ g1 < g2) := by show _ ∧ _; omega
  rw [← hg1] at R1
  rw [← hg2] at R2
  have HG1 := Lib.hid hg1; have HG2 := Lib.hid hg2
  clear hw1 hw2 hw r0 r1 r2 b1 b2 h sz hg1 hg2
  obtain ⟨q0, q1, q2⟩ := table_row R2.out
  go_enter Tryz.func33, Tryz.ntmps33
  go_upto_region 1 with fail
  rw [show (w.alloc (baseBox A n c)).alloc (tableBox none 0 0 none 0 0 0) = w1 from HW.out.symm]
  clear HW
  go_upto_region 2 with fail
  rw [show w1.alloc (tableBox none 0 0 A n c t) = w2 from HW2.out.symm]
  clear HW2 p0
  rw [← HG1.out, ← HG2.out]
  clear HG1 HG2
  obtain ⟨q, hq⟩ : ∃ q, Hid ((decide (0 ≤ t) && decide (t < (n : Int))) = q) := ⟨_, rfl⟩
  have C := Lib.hid (there_any none 0 0 A n c t w2)
  rw [hq.out] at C
  have hlow := HG.out
  cases q with
  | false =>
    have HL : Hid (ll = []) := by show _ = _; rw [← hll.out]; exact linesB_no (by have := hq.out; simp only [Bool.and_eq_false_iff, decide_eq_false_iff_not] at this; omega)
    clear hlow
    go_wp2_with (go_at_call 58; refine C.out.mono ?_; rintro e w3 ⟨rfl, b3⟩; have B3 := Lib.hid (below_then HB.out b3); have T1 := Lib.hid (row_below R1.out b3); obtain ⟨s0, s1, s2⟩ := table_row (row_below R2.out b3); obtain ⟨t0, t1, t2⟩ := table_row T1.out; have f0 := frozen_row T1.out)
    refine bodyPost_ret (v := tableV none 0 0 A n c t) (results_cell_row rfl _ _ g1 83 _ (0, 0) _ rfl (set3row T1.out) Tryz.underlying83 rfl (by kernel_rfl)) rfl ?_
    have hg := HG.out
    rw [HL.out]
    exact ⟨⟨none, 0, 0⟩, rfl, RdR.nil_ _, ((B3.out.setCell (by exact Nat.le_of_lt hg.1) _).setCell (by exact Nat.le_of_lt hg.1) _).setCell (by exact Nat.le_of_lt hg.1) _⟩
  | true =>
    obtain ⟨k, rfl⟩ : ∃ k : Nat, t = (k : Int) := Int.eq_ofNat_of_zero_le (by have := hq.out; simp only [Bool.and_eq_true, decide_eq_true_eq] at this; omega)
    have hk : k < n := by have := hq.out; simp only [Bool.and_eq_true, decide_eq_true_eq] at this; omega
    obtain ⟨bb, o, x, y, rfl, hb, hx, hr, hc⟩ := HR.out.data13 hk
    have HL : Hid (ll = y) := by show _ = _; rw [← hll.out]; exact linesB_at hx
    have HRL := Lib.hid hr; have HC := Lib.hid hc
    have n1 : ¬ g1 = g2 := by omega
    have n2 : ¬ g2 = g1 := by omega
    have y1 : (k : Int) < (n : Int) := by omega
    have y0 : (0 : Int) ≤ (k : Int) := by omega
    clear hx hr hc hb hlow
    go_wp2_with (go_at_call 58; refine C.out.mono ?_; rintro e w3 ⟨rfl, b3⟩; have B3 := Lib.hid (below_then HB.out b3); have T1 := Lib.hid (row_below R1.out b3); have T2 := Lib.hid (row_below R2.out b3); obtain ⟨s0, s1, s2⟩ := table_row T2.out; obtain ⟨t0, t1, t2⟩ := table_row T1.out; have f0 := frozen_row T1.out; have f2 := frozen_row T2.out; have d0 := base_row (row_below R0.out b3); have d1 := HC.out _ (below_then HW0.out B3.out))
    refine bodyPost_ret (v := tableV x.a x.n x.c (some ⟨bb, o, none⟩) n c (k : Int)) (results_cell_row rfl _ _ g1 83 _ (0, 0) _ rfl (set3row (row_setCell (g := g1) (b := g2) T1.out 0 (.slice x.a x.n x.c) (by have := HG.out; omega))) Tryz.underlying83 rfl (by kernel_rfl)) rfl ?_
    have hg := HG.out
    rw [HL.out]
    have hb3 := below_put (below_put (below_put (below_put B3.out g2 0 (.slice x.a x.n x.c) (by omega)) g1 0 (.slice x.a x.n x.c) (by omega)) g1 1 (.slice (some ⟨bb, o, none⟩) n c) (by omega)) g1 2 (.int .i64 (k : Int)) (by omega)
    exact ⟨x, rfl, HRL.out, hb3⟩
/-- tables, one of which has other lines -/
theorem rdB_set {w W : World} {A : Option Addr} {n c : Nat} {b : List (List LQ)} {L : List SlR} (h : RdG SlR.cells 1 W A n c L) (hl : L.length = b.length) (hr : ∀ (j : Nat) (x : SlR) (y : List LQ), L[j]? = some x → b[j]? = some y → DataR w x y) (hb : Sees w W) : RdB W A n c b :=
  ⟨L, h, hl, fun j x y hx hy => dataR_keeps _ _ _ _ (hr j x y hx hy) hb⟩
theorem rdB_put {w W : World} {A : Option Addr} {n c : Nat} {b : List (List LQ)} {L : List SlR} {k : Nat} {m : SlR} {l : List LQ} (h : RdG SlR.cells 1 W A n c (L.set k m)) (hl : L.length = b.length) (hr : ∀ (j : Nat) (x : SlR) (y : List LQ), L[j]? = some x → b[j]? = some y → DataR w x y) (hm : RdLs W m.a m.n m.c l) (hb : Sees w W) : RdB W A n c (b.set k l) := by
  refine ⟨L.set k m, h, by rw [List.length_set, List.length_set, hl], fun j x y hx hy => ?_⟩
  rw [List.getElem?_set] at hx hy
  split at hx
  · rename_i e
    rw [if_pos e] at hy
    split at hx
    · rename_i e2
      rw [if_pos (by omega)] at hy
      injection hx with hx; injection hy with hy
      subst hx hy
      exact hm
    · cases hx
  · rename_i e
    rw [if_neg e] at hy
    exact dataR_keeps _ _ _ _ (hr j x y hx hy) hb
set_option maxHeartbeats 3200000 in
theorem having_any (lA : Option Addr) (ln lc : Nat) (A : Option Addr) (n c : Nat) (t : Int) (m : SlR) (b : List (List LQ)) (l : List LQ) (hi : Nat) (w0 w : World) (h : RdB w0 A n c b) (hw : Below w0.heap.size w0 w) (hhi : hi ≤ w.heap.size) (hm : ∀ W, Agree w0.heap.size hi w W → RdLs W m.a m.n m.c l) (hn : n ≤ 4294967296) :
    Calls Tryz.prog 37 #[tableV lA ln lc A n c t, .slice m.a m.n m.c] w fun e w' => ∃ (x : SlR), e = .returned (.agg #[.slice x.a x.n x.c]) ∧ (∀ W, Agree w0.heap.size hi w' W → RdB W x.a x.n x.c (setB b t l)) ∧ (x.n = n ∧ ∀ a, x.a = some a → hi ≤ a.block) ∧ Below w.heap.size w w' := by
  have hle := h.le
  have hlen := h.len
  obtain ⟨w1, hw1⟩ : ∃ w1, w1 = (w.alloc (tableBox lA ln lc A n c t)).alloc (baseBox none 0 0) := ⟨_, rfl⟩
  have HW := Lib.hid hw1
  have r0 : w1.heap[w.heap.size]? = some (tableBox lA ln lc A n c t) := by rw [hw1]; exact row_below (heap_alloc_new _ _) (below_new (Below.refl _ _) _)
  have r1 : w1.heap[w.heap.size + 1]? = some (baseBox none 0 0) := by rw [hw1]; have := heap_alloc_new (w.alloc (tableBox lA ln lc A n c t)) (baseBox none 0 0); rwa [World.size_alloc] at this
  have b1 : Below w.heap.size w w1 := by rw [hw1]; exact below_new (below_new (Below.refl _ _) _) _
  have sz : w1.heap.size = w.heap.size + 1 + 1 := by rw [hw1]; simp only [World.size_alloc]
  obtain ⟨w2, hw2⟩ : ∃ w2, w2 = w1.alloc (baseBox A n c) := ⟨_, rfl⟩
  have HW2 := Lib.hid hw2
  have b2 : Below w1.heap.size w1 w2 := by rw [hw2]; exact below_new (Below.refl _ _) _
  have r2 : w2.heap[w1.heap.size]? = some (baseBox A n c) := by rw [hw2]; exact heap_alloc_new _ _
  have R0 := Lib.hid (row_below r0 b2); have R1 := Lib.hid (row_below r1 b2); have R2 := Lib.hid r2
  have HB := Lib.hid (below_then b1 b2)
  obtain ⟨p0, p1, p2⟩ := table_row r0
  obtain ⟨L, h1, h2, h3⟩ := h
  have CL := Lib.hid (cloneDt_any A n c L w2 (h1.below (below_then hw (below_then b1 b2))) hn)
  have HM := Lib.hid hm
  have HW0 := Lib.hid hw
  have H3 := Lib.hid h3; have HL2 : Hid (L.length = b.length) := h2
  obtain ⟨bb, hbb⟩ : ∃ bb, Hid (setB b t l = bb) := ⟨_, rfl⟩
  rw [hbb.out]
  have HSZ2 : Hid (w2.heap.size = w1.heap.size + 1) := by show _ = _; rw [hw2]; simp only [World.size_alloc]
  obtain ⟨g1, hg1⟩ : ∃ g, g = w.heap.size + 1 := ⟨_, rfl⟩
  obtain ⟨g2, hg2⟩ : ∃ g, g = w1.heap.size := ⟨_, rfl⟩
  have HG : Hid (w.heap.size < g1 ∧ g1 < g2 ∧ g2 < w2.heap.size) := by have := HSZ2.out; show _ ∧ _ ∧ _; omega
  rw [← hg1] at R1
  rw [← hg2] at R2
  have HG1 := Lib.hid hg1; have HG2 := Lib.hid hg2
  clear hw1 hw2 r0 r1 r2 b1 b2 sz hg1 hg2 h1 h2 h3 hm hw HSZ2
  go_enter Tryz.func37, Tryz.ntmps37
  go_upto_region 1 with fail
  rw [show (w.alloc (tableBox lA ln lc A n c t)).alloc (baseBox none 0 0) = w1 from HW.out.symm]
  clear HW
  go_upto_region 2 with fail
  rw [show w1.alloc (baseBox A n c) = w2 from HW2.out.symm]
  clear HW2 p0 p1 p2
  rw [← HG1.out, ← HG2.out]
  clear HG1 HG2
  have q0 := base_row R2.out
  go_upto_region 3 with (go_at_call 63; refine CL.out.mono ?_; rintro e w3 ⟨v3, rfl, o3, b3⟩; have q3 := row_below R2.out b3; have q0 := base_row q3; have f0 := frozen_row q3; obtain ⟨A4, c4, rfl, _⟩ := RdG.own_ slRlen (by omega) o3)
  obtain ⟨w4, hw4⟩ : ∃ w4, w4 = w3.setCell ⟨g2, 0, none⟩ (.slice A4 n c4) := ⟨_, rfl⟩
  rw [← hw4]
  have hgo := HG.out
  have s2 : w4.heap[g2]? = some (baseBox A4 n c4) := by rw [hw4, set_row q3 0 _]; rfl
  have s0 : w4.heap[w.heap.size]? = some (tableBox lA ln lc A n c t) := by rw [hw4]; exact row_setCell (row_below R0.out b3) _ _ (by omega)
  have s1 : w4.heap[g1]? = some (baseBox none 0 0) := by rw [hw4]; exact row_setCell (row_below R1.out b3) _ _ (by omega)
  have o4 : w4.ownsRow w2.heap.size 57 1 (.slice A4 n c4) n (L.flatMap SlR.cells) := by rw [hw4]; exact own_ne o3 _ _ _ (fun k hk => by have := (o3.lt k hk).1; omega)
  have b4 : Below w.heap.size w w4 := by rw [hw4]; exact (below_then HB.out b3).setCell (show w.heap.size ≤ g2 by omega) _
  have S0 := Lib.hid s0; have S1 := Lib.hid s1; have S2 := Lib.hid s2; have O4 := Lib.hid o4; have B4 := Lib.hid b4
  clear hw4 q3 o3 b3 CL R0 R1 R2 HB q0 f0 hgo
  obtain ⟨p0, p1, p2⟩ := table_row s0
  clear s0 s1 s2 o4 b4
  obtain ⟨q, hq⟩ : ∃ q, Hid ((decide (0 ≤ t) && decide (t < (n : Int))) = q) := ⟨_, rfl⟩
  have C := Lib.hid (there_any lA ln lc A n c t w4)
  rw [hq.out] at C
  cases q with
  | false =>
    have HBB : Hid (bb = b) := by show _ = _; rw [← hbb.out]; exact setB_no (by have := hq.out; simp only [Bool.and_eq_false_iff, decide_eq_false_iff_not] at this; omega)
    go_wp2_with (go_at_call 58; refine C.out.mono ?_; rintro e w5 ⟨rfl, b5⟩; have B5 := Lib.hid b5; have T1 := Lib.hid (row_below S1.out b5); have t2 := base_row (row_below S2.out b5); have t1 := base_row T1.out; have f1 := frozen_row T1.out)
    refine bodyPost_ret (v := .agg #[.slice A4 n c4]) (results_cell_row rfl _ _ g1 27 _ (0, 0) _ rfl (set1row T1.out) Tryz.underlying27 rfl (by kernel_rfl)) rfl ?_
    have hg := HG.out
    have hb5 := below_put (below_then B4.out B5.out) g1 0 (.slice A4 n c4) (by omega)
    have ho := own_ne (own_below O4.out B5.out) g1 0 (.slice A4 n c4) (fun k hk => by have := (O4.out.lt k hk).1; omega)
    have hob : ∀ a, A4 = some a → (Value.slice A4 n c4).ownBlock = some a.block := fun a ha => by rw [ha]; rfl
    obtain ⟨A9, c9, e9, hrd9⟩ := RdG.own_ slRlen (by omega) ho
    injection e9 with e9 _ e10
    subst e9 e10
    rw [HBB.out]
    exact ⟨⟨A4, n, c4⟩, rfl, fun W hW => rdB_set (rdg_agree hrd9 (fun _ a ha => .inr (by have := (ho.lt a.block (hob a ha)).1; omega)) hW) HL2.out H3.out (hW.sees (sees_below (below_then HW0.out hb5))), ⟨rfl, fun a ha => by have := (ho.lt a.block (hob a ha)).1; omega⟩, hb5⟩
  | true =>
    obtain ⟨k, rfl⟩ : ∃ k : Nat, t = (k : Int) := Int.eq_ofNat_of_zero_le (by have := hq.out; simp only [Bool.and_eq_true, decide_eq_true_eq] at this; omega)
    have hk : k < n := by have := hq.out; simp only [Bool.and_eq_true, decide_eq_true_eq] at this; omega
    have HBB : Hid (bb = b.set k l) := by show _ = _; rw [← hbb.out]; exact setB_at
    obtain ⟨g, hA⟩ : ∃ g, A4 = some ⟨g, 0, none⟩ := by
      rcases slice_zero O4.out with h0 | h0
      · omega
      · exact h0
    subst hA
    have hnc : n ≤ c4 := by
      rcases O4.out.2 with ⟨hv, _⟩ | ⟨g', cap, cur, hv, _, _, h1, _⟩
      · cases hv
      · injection hv with _ _ e3; omega
    have y1 : (k : Int) < (n : Int) := by omega
    have y0 : (0 : Int) ≤ (k : Int) := by omega
    have hLk : k < L.length := by have := HL2.out; omega
    have HC5 : Hid ((L.flatMap SlR.cells)[k]? = some (.slice L[k].a L[k].n L[k].c)) := by
      show _ = _
      have := flat_at slRlen L k hLk 0 _ rfl
      rwa [Nat.mul_one, Nat.add_zero] at this
    have HFS : Hid ((L.flatMap SlR.cells).set k (.slice m.a m.n m.c) = (L.set k m).flatMap SlR.cells) := by
      show _ = _
      have := flat_set slRlen L k 0 (.slice m.a m.n m.c) L[k] m (List.getElem?_eq_getElem hLk) rfl (by omega)
      rwa [Nat.mul_one, Nat.add_zero] at this
    have n1 : ¬ g1 = g := by have := (O4.out.lt g rfl).1; have := HG.out; omega
    have n2 : ¬ g = g1 := by omega
    have n3 : ¬ g2 = g := by have := (O4.out.lt g rfl).1; have := HG.out; omega
    have n4 : ¬ g = g2 := by omega
    go_wp2_with (go_at_call 58; refine C.out.mono ?_; rintro e w5 ⟨rfl, b5⟩; have B5 := Lib.hid b5; have T1 := Lib.hid (row_below S1.out b5); have T2 := Lib.hid (row_below S2.out b5); have t2 := base_row T2.out; have t1 := base_row T1.out; have f1 := frozen_row T1.out; obtain ⟨p0, p1, p2⟩ := table_row (row_below S0.out b5); have O5 := Lib.hid (own_below O4.out b5); have f5 := O5.out.frozenAt k; have c5 := O5.out.cellAt k (by omega); rw [HC5.out] at c5)
    refine bodyPost_ret (v := .agg #[.slice (some ⟨g, 0, none⟩) n c4]) (results_cell_row rfl _ _ g1 27 _ (0, 0) _ rfl (set1row (row_setCell (g := g1) (b := g) T1.out k (.slice m.a m.n m.c) n1)) Tryz.underlying27 rfl (by kernel_rfl)) rfl ?_
    have hg := HG.out
    have hgl := (O4.out.lt g rfl).1
    have hb5 := below_put (below_put (below_then B4.out B5.out) g k (.slice m.a m.n m.c) (by omega)) g1 0 (.slice (some ⟨g, 0, none⟩) n c4) (by omega)
    have ho := own_ne (own_set13 O5.out k (.slice m.a m.n m.c)) g1 0 (.slice (some ⟨g, 0, none⟩) n c4) (fun k2 hk2 => by have e : g = k2 := by { simpa [Value.ownBlock] using hk2 }; omega)
    rw [HFS.out] at ho
    obtain ⟨A9, c9, e9, hrd9⟩ := RdG.own_ slRlen (by omega) ho
    injection e9 with e9 _ e10
    subst e9 e10
    rw [HBB.out]
    exact ⟨⟨some ⟨g, 0, none⟩, n, c4⟩, rfl, fun W hW => rdB_put (rdg_agree hrd9 (fun _ a ha => .inr (by injection ha with ha; subst ha; show hi ≤ g; omega)) hW) HL2.out H3.out (HM.out W ((Agree.below hb5).trans hW)) (hW.sees (sees_below (below_then HW0.out hb5))), ⟨rfl, fun a ha => by injection ha with ha; subst ha; show hi ≤ g; omega⟩, hb5⟩
end Go.Proofs.YtfljhnalmiibeaaGreat

namespace Go.Proofs.YtfljhnalmiibeaaGreat
set_option maxRecDepth 100000
open Go.RowKit
/-- the first place, or -1 -/
def idxG {α : Type} (p : α → Bool) (l : List α) : Int := if l.findIdx p < l.length then (l.findIdx p : Int) else -1
theorem idxG_hit {α : Type} {l : List α} {p : α → Bool} {k : Nat} {x : α} (h : ∀ y ∈ l.take k, p y = false) (hx : l[k]? = some x) (hp : p x = true) : idxG p l = (k : Int) := by
  obtain ⟨hk, e⟩ := List.getElem?_eq_some_iff.1 hx
  have : l.findIdx p = k := by
    refine (List.findIdx_eq hk).2 ⟨by rw [e]; exact hp, fun j hj => ?_⟩
    have := h l[j] (by rw [List.mem_take_iff_getElem]; exact ⟨j, by omega, rfl⟩)
    simpa using this
  rw [idxG, this, if_pos hk]
theorem idxG_miss {α : Type} {l : List α} {p : α → Bool} (h : ∀ y ∈ l, p y = false) : idxG p l = -1 := by
  rw [idxG, List.findIdx_eq_length.2 h, if_neg (by omega)]
theorem noG_next {α : Type} {p : α → Bool} {l : List α} {k : Nat} {x : α} (hno : ∀ y ∈ l.take k, p y = false) (hx : l[k]? = some x) (hp : p x = false) : ∀ y ∈ l.take (k + 1), p y = false := by
  intro y hy
  rw [List.take_add_one, hx] at hy
  rcases List.mem_append.1 hy with h | h
  · exact hno y h
  · simp at h; subst h; exact hp
/-- a closure over one thing tells p of it, in every world behind w0 -/
def TellsG {α : Type} (P : Program) (g : Nat) (cb : Array Value) (agg : α → Value) (p : α → Bool) (w0 : World) : Prop :=
  ∀ W, Below w0.heap.size w0 W → ∀ x : α, Calls P g (#[agg x] ++ cb) W fun e W' => e = .returned (.bool (p x)) ∧ Below W.heap.size W W'
set_option maxHeartbeats 3200000 in
theorem indexFL_any (g : Nat) (cb : Array Value) (p : LnR → Bool) (A : Option Addr) (n c : Nat) (l : List LnR) (w : World) (eg : ∀ args w, (callFunc g args).run Tryz.prog w = .ok (.enter g args) w)
    (h : RdG LnR.cells 3 w A n c l) (hp : TellsG Tryz.prog g cb LnR.agg p w) :
    Calls Tryz.prog 106 #[.slice A n c, .func (.func g) #[] cb] w fun e w' => e = .returned (.int .i64 (idxG p l)) ∧ Below w.heap.size w w' := by
  have hl := h.len
  have hle := h.le
  have HRD := Lib.hid h; have HL := Lib.hid hl; have HP := Lib.hid hp
  clear h hl hp
  obtain ⟨z, hz⟩ : ∃ z, Hid (idxG p l = z) := ⟨_, rfl⟩
  rw [hz.out]
  go_enter Tryz.func106, Tryz.ntmps106
  go_wp2_with fail
  go_loopw [8] (fun i wr => ∃ k : Nat, k ≤ n ∧ i = .int .i64 k ∧ Hid (∀ y ∈ l.take k, p y = false) ∧ Below w.heap.size w wr) (fun i _ => n - (intOf i).toNat)
  case atStart => exact ⟨0, Nat.zero_le _, rfl, by intro y hy; simp at hy, Below.refl _ _⟩
  case round =>
    obtain ⟨k, hk, rfl, hno, hbel⟩ := hrel
    by_cases hlt : k < n
    · obtain ⟨b, o, x, rfl, hb, hx, hc⟩ := HRD.out.at_ hlt
      have cc : ∀ i v, (LnR.cells x)[i]? = some v → wr.cell? ⟨b, o + k * 3 + i, none⟩ = some v := fun i v hv => (hbel.cell (p := ⟨b, o + k * 3 + i, none⟩) hb).trans (hc i v hv)
      have d0 : wr.cell? ⟨b, o + k * 3, none⟩ = _ := cc 0 _ rfl
      have d1 : wr.cell? ⟨b, o + k * 3 + 1, none⟩ = _ := cc 1 _ rfl
      have d2 : wr.cell? ⟨b, o + k * 3 + 2, none⟩ = _ := cc 2 _ rfl
      obtain ⟨r, hr, C⟩ : ∃ r, Hid (p x = r) ∧ Hid (Calls Tryz.prog g (#[LnR.agg x] ++ cb) wr fun e W' => e = .returned (.bool r) ∧ Below wr.heap.size wr W') := ⟨_, rfl, HP.out _ hbel x⟩
      have HX := Lib.hid hx
      have HB := Lib.hid hbel
      clear hc cc hx hbel
      go_wp2_with fail
      refine C.out.mono ?_
      rintro e w2 ⟨rfl, b2⟩
      have B3 := below_then HB.out b2
      cases r with
      | true =>
        have hfin : Hid ((k : Int) = z) := by
          show _ = _
          rw [← hz.out, idxG_hit hno.out HX.out hr.out]
        go_wp2
        go_ret
        exact ⟨ret_int hfin.out, B3⟩
      | false =>
        have hno2 : Hid (∀ y ∈ l.take (k + 1), p y = false) := by show ∀ y ∈ _, _; exact noG_next hno.out HX.out hr.out
        go_wp2
        exact ⟨⟨k + 1, by omega, by go_num, hno2, B3⟩, by simp [intOf]; omega⟩
    · have hfin : Hid ((-1 : Int) = z) := by
        show _ = _
        have h1 := HL.out
        have h2 := hno.out
        rw [List.take_of_length_le (by omega)] at h2
        rw [← hz.out, idxG_miss h2]
      go_wp2
      go_ret
      exact ⟨ret_int hfin.out, hbel⟩
set_option maxHeartbeats 3200000 in
theorem indexFD_any (g : Nat) (cb : Array Value) (p : D2 → Bool) (A : Option Addr) (n c : Nat) (l : List D2) (w : World) (eg : ∀ args w, (callFunc g args).run Tryz.prog w = .ok (.enter g args) w)
    (h : RdG D2.cells 2 w A n c l) (hp : TellsG Tryz.prog g cb D2.agg p w) :
    Calls Tryz.prog 76 #[.slice A n c, .func (.func g) #[] cb] w fun e w' => e = .returned (.int .i64 (idxG p l)) ∧ Below w.heap.size w w' := by
  have hl := h.len
  have hle := h.le
  have HRD := Lib.hid h; have HL := Lib.hid hl; have HP := Lib.hid hp
  clear h hl hp
  obtain ⟨z, hz⟩ : ∃ z, Hid (idxG p l = z) := ⟨_, rfl⟩
  rw [hz.out]
  go_enter Tryz.func76, Tryz.ntmps76
  go_wp2_with fail
  go_loopw [8] (fun i wr => ∃ k : Nat, k ≤ n ∧ i = .int .i64 k ∧ Hid (∀ y ∈ l.take k, p y = false) ∧ Below w.heap.size w wr) (fun i _ => n - (intOf i).toNat)
  case atStart => exact ⟨0, Nat.zero_le _, rfl, by intro y hy; simp at hy, Below.refl _ _⟩
  case round =>
    obtain ⟨k, hk, rfl, hno, hbel⟩ := hrel
    by_cases hlt : k < n
    · obtain ⟨b, o, x, rfl, hb, hx, hc⟩ := HRD.out.at_ hlt
      have cc : ∀ i v, (D2.cells x)[i]? = some v → wr.cell? ⟨b, o + k * 2 + i, none⟩ = some v := fun i v hv => (hbel.cell (p := ⟨b, o + k * 2 + i, none⟩) hb).trans (hc i v hv)
      have d0 : wr.cell? ⟨b, o + k * 2, none⟩ = _ := cc 0 _ rfl
      have d1 : wr.cell? ⟨b, o + k * 2 + 1, none⟩ = _ := cc 1 _ rfl
      obtain ⟨r, hr, C⟩ : ∃ r, Hid (p x = r) ∧ Hid (Calls Tryz.prog g (#[D2.agg x] ++ cb) wr fun e W' => e = .returned (.bool r) ∧ Below wr.heap.size wr W') := ⟨_, rfl, HP.out _ hbel x⟩
      have HX := Lib.hid hx
      have HB := Lib.hid hbel
      clear hc cc hx hbel
      go_wp2_with fail
      refine C.out.mono ?_
      rintro e w2 ⟨rfl, b2⟩
      have B3 := below_then HB.out b2
      cases r with
      | true =>
        have hfin : Hid ((k : Int) = z) := by
          show _ = _
          rw [← hz.out, idxG_hit hno.out HX.out hr.out]
        go_wp2
        go_ret
        exact ⟨ret_int hfin.out, B3⟩
      | false =>
        have hno2 : Hid (∀ y ∈ l.take (k + 1), p y = false) := by show ∀ y ∈ _, _; exact noG_next hno.out HX.out hr.out
        go_wp2
        exact ⟨⟨k + 1, by omega, by go_num, hno2, B3⟩, by simp [intOf]; omega⟩
    · have hfin : Hid ((-1 : Int) = z) := by
        show _ = _
        have h1 := HL.out
        have h2 := hno.out
        rw [List.take_of_length_le (by omega)] at h2
        rw [← hz.out, idxG_miss h2]
      go_wp2
      go_ret
      exact ⟨ret_int hfin.out, hbel⟩
end Go.Proofs.YtfljhnalmiibeaaGreat

