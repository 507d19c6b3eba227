/- Layer 13: Get; a line that a dot wrote, too. -/
import Derived.Test.YtfljhnalmiibeaaGreatMbBasPut2
import Derived.Test.YtfljhnalmiibeaaGreatMbBasIns
namespace Go.Proofs.YtfljhnalmiibeaaGreat
set_option maxRecDepth 100000
open Go.RowKit
set_option maxHeartbeats 1600000 in
theorem get13_any (A : Option Addr) (n c : Nat) (b : List (List LQ)) (t k : Int) (w0 w : World) (h : RdB w0 A n c b) (hw : Below w0.heap.size w0 w) (hb : BaseOk b) :
    Calls Tryz.prog 25 #[.agg #[.slice A n c], .int .i64 t, .int .i64 k] w fun e w' => ∃ z : LnR, e = .returned (.tuple #[z.agg, .bool (getB13 b t k).isSome]) ∧ (∀ U, Agree w0.heap.size w.heap.size w' U → LineR U z ((getB13 b t k).getD noLine)) ∧ Below w.heap.size w w' := by
  obtain ⟨w1, hw1⟩ : ∃ w1, w1 = ((w.alloc (baseBox A n c)).alloc (lineBox ⟨0, none, 0, 0, none, 0, 0⟩)) := ⟨_, rfl⟩
  have HW := Lib.hid hw1
  have r0 : w1.heap[w.heap.size]? = some (baseBox A n c) := by rw [hw1]; exact old_row13 _ (new_row13 _ _ rfl)
  have r1 : w1.heap[w.heap.size + 1]? = some (lineBox ⟨0, none, 0, 0, none, 0, 0⟩) := by rw [hw1]; exact new_row13 _ _ (by simp only [World.size_alloc])
  have b1 : Below w.heap.size w w1 := by rw [hw1]; exact below_new (below_new (Below.refl _ _) _) _
  have sz : w1.heap.size = w.heap.size + 1 + 1 := by rw [hw1]; simp only [World.size_alloc]
  have p0 := base_row r0
  have T := Lib.hid (tableOf_any A n c b t w0 w1 h (below_then hw b1))
  have HW0 := Lib.hid hw
  have HOK : Hid (∀ y ∈ linesB b t, LineOk y) := by show ∀ y ∈ _, _; intro y hy; obtain ⟨l, h1, h2⟩ := linesB_mem hy; exact hb.each l h1 y h2
  unfold getB13
  obtain ⟨ll, hll⟩ : ∃ ll, Hid (linesB b t = ll) := ⟨_, rfl⟩
  rw [hll.out] at T HOK
  rw [hll.out]
  obtain ⟨o, ho⟩ : ∃ o, Hid (getL ll k = o) := ⟨_, rfl⟩
  have LN : Hid (∀ (W : World) (z : SlR), Below w1.heap.size w1 W → RdLs w0 z.a z.n z.c ll → Calls Tryz.prog 51 #[.slice z.a z.n z.c, .int .i64 k] W fun e w' => ∃ u : LnR, e = .returned (.tuple #[u.agg, .bool o.isSome]) ∧ (∀ U, Agree w0.heap.size W.heap.size w' U → LineR U u (o.getD noLine)) ∧ Below W.heap.size W w') := by
    show ∀ W z, _; intro W z hW hz
    rw [← ho.out]
    exact line_any z.a z.n z.c ll k w0 W hz (below_then hw (below_then b1 hW)) HOK.out
  rw [ho.out]
  have FLD : ∀ (X Y Z : Value) (W : World), (Instr.field 83 (.agg #[X, Y, Z]) 0).run Tryz.prog W = .ok X W := fun X Y Z W => by kernel_rfl
  have R1 := Lib.hid r1; have B1 := Lib.hid b1; have HSZ := Lib.hid sz
  clear h hw hb b1 sz hw1 r0 r1
  generalize hg1 : w.heap.size + 1 = g1 at R1 HSZ ⊢
  have HG1 := Lib.hid hg1
  clear hg1
  go_enter Tryz.func25, Tryz.ntmps25
  go_upto_region 1 with fail
  rw [show ((w.alloc (baseBox A n c)).alloc (lineBox ⟨0, none, 0, 0, none, 0, 0⟩)) = w1 from HW.out.symm]
  clear HW
  rw [HG1.out]
  go_wp2_with (first | (go_at_call 33; refine T.out.mono ?_; rintro e w2 ⟨z, rfl, hz, b2⟩; have HZ := Lib.hid hz; have B2 := Lib.hid b2; clear hz b2) | (go_at_call 51; refine (LN.out _ z B2.out HZ.out).mono ?_; rintro e w3 ⟨u, rfl, hu, b3⟩; have HU := Lib.hid hu; have r3 := row_below R1.out (below_then B2.out b3); obtain ⟨q0, q1, q2⟩ := line_row r3; have f3 := frozen_row r3; clear hu))
  refine bodyPost_ret (v := .tuple #[u.agg, .bool o.isSome]) (results_row_tmp rfl _ _ g1 37 _ (0, 0) _ rfl (set3row r3) Tryz.underlying37 rfl (by kernel_rfl) rfl) rfl ?_
  have h1 := HG1.out
  have h2 := HSZ.out
  have h3 := B2.out.size
  have h4 := HW0.out.size
  have h5 := B1.out.size
  refine ⟨u, rfl, fun U hU => HU.out U ?_, below_put (below_put (below_put (below_then (below_then B1.out B2.out) b3) _ _ _ (by omega)) _ _ _ (by omega)) _ _ _ (by omega)⟩
  exact ((((Agree.refl w0.heap.size w2.heap.size w3).put g1 0 _ ⟨by omega, by omega⟩).put g1 1 _ ⟨by omega, by omega⟩).put g1 2 _ ⟨by omega, by omega⟩).trans (hU.mono (Nat.le_refl _) (by omega))
theorem lineR_insert {w : World} {z : LnR} {y : LQ} (h : LineR w z y) (ba : Option Addr) (bn bc : Nat) (l : List D2) (hl : RdD w ba bn bc l) : LineR w ⟨z.key, z.ca, z.cn, z.cc, ba, bn, bc⟩ ⟨y.key, y.cs, l⟩ := ⟨h.1, h.2.1, hl⟩
set_option maxHeartbeats 6400000 in
theorem wrote13_any (x : LnR) (y : LQ) (d : D2) (w0 w : World) (h : LineR w0 x y) (hw : Below w0.heap.size w0 w) (hs : LineOk y) :
    Calls Tryz.prog 23 #[x.agg, d.agg] w fun e w' => ∃ z : LnR, e = .returned z.agg ∧ (∀ U, Agree w0.heap.size w.heap.size w' U → LineR U z (wroteL y d)) ∧ Below w.heap.size w w' := by
  obtain ⟨w1, hw1⟩ : ∃ w1, w1 = (((w.alloc (lineBox x)).alloc (dotBox d)).alloc (lineBox ⟨0, none, 0, 0, none, 0, 0⟩)) := ⟨_, rfl⟩
  have HW := Lib.hid hw1
  have r0 : w1.heap[w.heap.size]? = some (lineBox x) := by rw [hw1]; exact old_row13 _ (old_row13 _ (new_row13 _ _ rfl))
  have r1 : w1.heap[w.heap.size + 1]? = some (dotBox d) := by rw [hw1]; exact old_row13 _ (new_row13 _ _ (by simp only [World.size_alloc]))
  have r2 : w1.heap[w.heap.size + 1 + 1]? = some (lineBox ⟨0, none, 0, 0, none, 0, 0⟩) := by rw [hw1]; exact new_row13 _ _ (by simp only [World.size_alloc])
  have b1 : Below w.heap.size w w1 := by rw [hw1]; exact below_new (below_new (below_new (Below.refl _ _) _) _) _
  have sz : w1.heap.size = w.heap.size + 1 + 1 + 1 := by rw [hw1]; simp only [World.size_alloc]
  have OW := Lib.hid (own2_any x y w0 w1 h (below_then hw b1) hs)
  obtain ⟨p0, p1, p2⟩ := line_row r0
  have f0 := frozen_row r0
  have R1 := Lib.hid r1; have R2 := Lib.hid r2; have R0 := Lib.hid r0
  have B1 := Lib.hid b1; have HSZ := Lib.hid sz; have HW0 := Lib.hid hw; have HBY := Lib.hid hs.by_
  clear h hw hs b1 sz hw1 r0 r1 r2
  generalize hg1 : w.heap.size + 1 = g1 at R1 R2 HSZ ⊢
  generalize hg2 : g1 + 1 = g2 at R2 HSZ ⊢
  have HG : Hid (w.heap.size + 1 = g1 ∧ g1 + 1 = g2) := ⟨hg1, hg2⟩
  clear hg1 hg2
  obtain ⟨q, hq⟩ : ∃ q, Hid (decide (d ∈ y.by_) = q) := ⟨_, rfl⟩
  obtain ⟨yy, hyy⟩ : ∃ yy, Hid (wroteL y d = yy) := ⟨_, rfl⟩
  rw [hyy.out]
  go_enter Tryz.func23, Tryz.ntmps23
  go_upto_region 1 with fail
  rw [show (((w.alloc (lineBox x)).alloc (dotBox d)).alloc (lineBox ⟨0, none, 0, 0, none, 0, 0⟩)) = w1 from HW.out.symm]
  clear HW
  rw [HG.out.1, HG.out.2]
  go_upto_region 2 with (go_at_call 44; refine OW.out.mono ?_; rintro e w2 ⟨z, rfl, hz, oz, b2, BB, hBB, hBw, hcB⟩; have r0 := row_below R0.out b2; have f0 := frozen_row r0; obtain ⟨p0, p1, p2⟩ := line_row r0)
  obtain ⟨w3, hw3⟩ : ∃ w3, w3 = ((w2.setCell ⟨w.heap.size, 0, none⟩ (.int .i64 z.key)).setCell ⟨w.heap.size, 1, none⟩ (.slice z.ca z.cn z.cc)).setCell ⟨w.heap.size, 2, none⟩ (.slice z.ba z.bn z.bc) := ⟨_, rfl⟩
  rw [← hw3]
  have hlo := HW0.out.size
  have hs1 := HSZ.out
  have hgg := HG.out
  have r0 : w3.heap[w.heap.size]? = some (lineBox z) := by rw [hw3]; exact set3row (row_below R0.out b2)
  have r1 : w3.heap[g1]? = some (dotBox d) := by rw [hw3]; exact row_setCell (row_setCell (row_setCell (row_below R1.out b2) _ _ (by omega)) _ _ (by omega)) _ _ (by omega)
  have r2 : w3.heap[g2]? = some (lineBox ⟨0, none, 0, 0, none, 0, 0⟩) := by rw [hw3]; exact row_setCell (row_setCell (row_setCell (row_below R2.out b2) _ _ (by omega)) _ _ (by omega)) _ _ (by omega)
  have hob : ∀ k, (Value.slice z.ba z.bn z.bc).ownBlock = some k → k ≠ w.heap.size := fun k hk => by have := (oz.lt k hk).1; omega
  have o3 : w3.ownsRow w1.heap.size 40 2 (.slice z.ba z.bn z.bc) z.bn (y.by_.flatMap D2.cells) := by rw [hw3]; exact own_ne (own_ne (own_ne oz _ _ _ hob) _ _ _ hob) _ _ _ hob
  have b3 : Below w.heap.size w w3 := by rw [hw3]; exact below_put (below_put (below_put (below_then B1.out b2) _ _ _ (Nat.le_refl _)) _ _ _ (Nat.le_refl _)) _ _ _ (Nat.le_refl _)
  have a3 : Agree w0.heap.size w1.heap.size w2 w3 := by rw [hw3]; exact (((Agree.refl _ _ w2).put _ _ _ ⟨hlo, by omega⟩).put _ _ _ ⟨hlo, by omega⟩).put _ _ _ ⟨hlo, by omega⟩
  have hz3 : ∀ U, Agree w0.heap.size w1.heap.size w3 U → LineR U z y := fun U hU => hz U (a3.trans hU)
  have hs3 : w1.heap.size ≤ w3.heap.size := by rw [hw3]; simp only [World.size_setCell]; exact b2.size
  obtain ⟨A3, c3, e3, hrd3⟩ := RdG.own_ d2len (by omega) o3
  injection e3 with e3 _ e4
  subst e3 e4
  have HZ3 := Lib.hid hz3; have O3 := Lib.hid o3; have B3 := Lib.hid b3; have Q0 := Lib.hid r0; have Q1 := Lib.hid r1; have Q2 := Lib.hid r2; have HS3 := Lib.hid hs3; have HRD3 := Lib.hid hrd3
  have C := Lib.hid (containsD_any z.ba z.bn z.bc y.by_ d w3 hrd3)
  rw [hq.out] at C
  have HBB := Lib.hid hBB; have HBW := Lib.hid hBw
  have HCB : Hid (∀ U, Agree w0.heap.size BB w3 U → RdCs U z.ca z.cn z.cc y.cs) := by
    show ∀ U, _; intro U hU
    exact hcB U (Agree.trans (a3.mono (Nat.le_refl _) hBw) hU)
  have HZK : Hid (z.key = y.key) := (hz3 w3 (Agree.refl _ _ _)).1
  obtain ⟨p0, p1, p2⟩ := line_row r0
  obtain ⟨l0, l1⟩ := dot_row13 r1
  clear hBB hBw hcB hw3 r0 r1 r2 hob o3 b3 a3 hz3 hs3 hrd3 oz hz b2 f0 R0 R1 R2 OW hlo hs1 hgg
  cases q with
  | true =>
    have HYY : Hid (yy = y) := by show _ = _; rw [← hyy.out]; unfold wroteL wroteD; rw [if_pos (of_decide_eq_true hq.out)]
    go_wp2_with (go_at_call 45; refine C.out.mono ?_; rintro e w4 ⟨rfl, b4⟩; obtain ⟨m0, m1, m2⟩ := line_row (row_below Q0.out b4); have r5 := row_below Q2.out b4; obtain ⟨n0, n1, n2⟩ := line_row r5; have f5 := frozen_row r5)
    refine bodyPost_ret (v := z.agg) (results_cell_row rfl _ _ g2 37 _ (0, 0) _ rfl (set3row r5) Tryz.underlying37 rfl (by kernel_rfl)) rfl ?_
    have hlo := HW0.out.size
    have hs1 := HSZ.out
    have hgg := HG.out
    rw [HYY.out]
    refine ⟨z, rfl, fun U hU => HZ3.out U ?_, below_put (below_put (below_put (below_then B3.out b4) _ _ _ (by omega)) _ _ _ (by omega)) _ _ _ (by omega)⟩
    exact ((((Agree.below b4).put g2 0 _ ⟨by omega, by omega⟩).put g2 1 _ ⟨by omega, by omega⟩).put g2 2 _ ⟨by omega, by omega⟩).trans (hU.mono (Nat.le_refl _) (by omega))
  | false =>
    obtain ⟨k, hk⟩ : ∃ k, Hid (placeF (overD d) y.by_ = k) := ⟨_, rfl⟩
    have HYY : Hid (yy = ⟨y.key, y.cs, y.by_.take k ++ d :: y.by_.drop k⟩) := by show _ = _; rw [← hyy.out]; unfold wroteL wroteD; rw [if_neg (of_decide_eq_false hq.out), hk.out]
    have hbl : y.by_.length = z.bn := HRD3.out.len
    have hkn : k ≤ z.bn := by rw [← hk.out, ← hbl]; exact placeF_le _ _
    have PO : Hid (∀ W, Below w3.heap.size w3 W → Calls Tryz.prog 49 #[.slice z.ba z.bn z.bc, .func (.func 46) #[] #[.pointer (some ⟨g1, 0, none⟩)]] W fun e w' => e = .returned (.int .i64 (k : Nat)) ∧ Below W.heap.size W w') := by
      show ∀ W, _; intro W hW
      have := placeOfD_any 46 #[.pointer (some ⟨g1, 0, none⟩)] (overD d) z.ba z.bn z.bc y.by_ W Tryz.egWrote13 (HRD3.out.below hW) (wroteF1_any d g1 W (row_below Q1.out hW))
      rwa [show y.by_.findIdx (overD d) = k from hk.out] at this
    have IN : Hid (∀ (W : World) (gv : Nat), Below w3.heap.size w3 W → W.heap[gv]? = some (dotBox d) → w3.heap.size ≤ gv → Calls Tryz.prog 48 #[.slice z.ba z.bn z.bc, .int .i64 (k : Nat), .slice (some ⟨gv, 0, none⟩) 1 1] W fun e w' =>
        ∃ u : SlR, e = .returned (.slice u.a u.n u.c) ∧ w'.ownsRow w1.heap.size 40 2 (.slice u.a u.n u.c) (z.bn + 1) ((y.by_.take k ++ d :: y.by_.drop k).flatMap D2.cells) ∧ u.n = z.bn + 1 ∧ Below w1.heap.size W w' ∧ W.heap.size ≤ w'.heap.size ∧ ∀ j, (∀ q, (Value.slice z.ba z.bn z.bc).ownBlock = some q → j ≠ q) → j < W.heap.size → w'.heap[j]? = W.heap[j]?) := by
      show ∀ W gv, _; intro W gv hW hg hgv
      have ho := own_below O3.out hW
      have hsz := HS3.out
      refine (insert_anyD w1.heap.size z.bn z.bc k gv z.ba y.by_ d W hkn (by have := HBY.out; omega) ho hg (by have := hW.size; omega) (fun q hq => by have := (O3.out.lt q hq).2; omega)).mono ?_
      rintro e w' ⟨v, rfl, h1, h2, h3, h4⟩
      obtain ⟨A', c', rfl, _⟩ := RdG.own_ (l := y.by_.take k ++ d :: y.by_.drop k) d2len (by omega) h1
      exact ⟨⟨A', _, c'⟩, rfl, h1, rfl, h2, h2.size, h4⟩
    have FIN : Hid (∀ (w6 : World) (u : SlR), w6.ownsRow w1.heap.size 40 2 (.slice u.a u.n u.c) (z.bn + 1) ((y.by_.take k ++ d :: y.by_.drop k).flatMap D2.cells) → u.n = z.bn + 1 → Below w.heap.size w w6 → w3.heap.size ≤ w6.heap.size →
        (∀ j, (∀ q, (Value.slice z.ba z.bn z.bc).ownBlock = some q → j ≠ q) → j < w3.heap.size → w6.heap[j]? = w3.heap[j]?) →
        ∃ zz : LnR, Ending.returned (LnR.agg ⟨z.key, z.ca, z.cn, z.cc, u.a, z.bn + 1, u.c⟩) = .returned zz.agg ∧ (∀ U, Agree w0.heap.size w.heap.size ((((w6.setCell ⟨w.heap.size, 2, none⟩ (.slice u.a (z.bn + 1) u.c)).setCell ⟨g2, 0, none⟩ (.int .i64 z.key)).setCell ⟨g2, 1, none⟩ (.slice z.ca z.cn z.cc)).setCell ⟨g2, 2, none⟩ (.slice u.a (z.bn + 1) u.c)) U → LineR U zz yy) ∧
          Below w.heap.size w ((((w6.setCell ⟨w.heap.size, 2, none⟩ (.slice u.a (z.bn + 1) u.c)).setCell ⟨g2, 0, none⟩ (.int .i64 z.key)).setCell ⟨g2, 1, none⟩ (.slice z.ca z.cn z.cc)).setCell ⟨g2, 2, none⟩ (.slice u.a (z.bn + 1) u.c))) := by
      show ∀ w6 u, _
      intro w6 u hu hun hb hs6 hk6
      have hlo := HW0.out.size
      have hs1 := HSZ.out
      have hgg := HG.out
      have hbw := HBW.out
      rw [hun] at hu
      have hbo : ∀ q, (Value.slice u.a (z.bn + 1) u.c).ownBlock = some q → w1.heap.size ≤ q := fun q hq => (hu.lt q hq).1
      refine ⟨⟨z.key, z.ca, z.cn, z.cc, u.a, z.bn + 1, u.c⟩, rfl, fun U hU => ?_, below_put (below_put (below_put (below_put hb _ _ _ (Nat.le_refl _)) _ _ _ (by omega)) _ _ _ (by omega)) _ _ _ (by omega)⟩
      rw [HYY.out]
      have ho := own_ne (own_ne (own_ne (own_ne hu w.heap.size 2 (.slice u.a (z.bn + 1) u.c) (fun q hq => by have := hbo q hq; omega)) g2 0 (.int .i64 z.key) (fun q hq => by have := hbo q hq; omega)) g2 1 (.slice z.ca z.cn z.cc) (fun q hq => by have := hbo q hq; omega)) g2 2 (.slice u.a (z.bn + 1) u.c) (fun q hq => by have := hbo q hq; omega)
      obtain ⟨A9, c9, e9, hrd9⟩ := RdG.own_ (l := y.by_.take k ++ d :: y.by_.drop k) d2len (by omega) ho
      injection e9 with e9 _ e10
      subst e9 e10
      have hbo2 : ∀ a, u.a = some a → (Value.slice u.a (z.bn + 1) u.c).ownBlock = some a.block := fun a ha => by rw [ha]; rfl
      have hag : Agree w0.heap.size BB w3 w6 := ⟨hs6, fun j hj hb2 => hk6 j (fun q hq => by have h1 := HBB.out q hq; have h2 := (O3.out.lt q hq).1; omega) hj⟩
      refine ⟨HZK.out, HCB.out U ((hag.trans ((((Agree.refl w0.heap.size BB w6).put w.heap.size 2 (.slice u.a (z.bn + 1) u.c) ⟨by omega, by omega⟩).put g2 0 (.int .i64 z.key) ⟨by omega, by omega⟩).put g2 1 (.slice z.ca z.cn z.cc) ⟨by omega, by omega⟩ |>.put g2 2 (.slice u.a (z.bn + 1) u.c) ⟨by omega, by omega⟩)).trans (hU.mono (Nat.le_refl _) (by omega))), ?_⟩
      exact rdg_agree hrd9 (fun _ a ha => .inr (by have := hbo _ (hbo2 a ha); omega)) hU
    go_upto_region 4 with (go_at_call 45; refine C.out.mono ?_; rintro e w4 ⟨rfl, b4⟩)
    have B4 := Lib.hid b4
    have r0 := row_below Q0.out b4
    have r1 := row_below Q1.out b4
    obtain ⟨p0, p1, p2⟩ := line_row r0
    have f0 := frozen_row r0
    obtain ⟨l0, l1⟩ := dot_row13 r1
    have hg0 := row_lt r0
    have hg1 := row_lt r1
    have HR0 := Lib.hid r0; have HR1 := Lib.hid r1
    have p2a : ∀ o, (w4.alloc o).cell? ⟨w.heap.size, 2, none⟩ = some (.slice z.ba z.bn z.bc) := fun o => (World.cell?_alloc_lt w4 o _ hg0).trans p2
    clear C b4 r0 r1
    go_region_with (first
      | (go_at_call 49; refine (PO.out _ (by first | exact B4.out.drew | exact below_new B4.out _ | exact (below_new B4.out _).drew | exact B4.out)).mono ?_; rintro e w5 ⟨rfl, b5⟩; have r50 : w5.heap[w.heap.size]? = some (lineBox z) := (by first | exact row_below HR0.out b5 | exact row_below (w := w4.drew) HR0.out b5 | exact row_below (w := (w4.alloc (dotBox d)).drew) (old_row13 _ HR0.out) b5 | exact row_below (w := w4.drew.alloc (dotBox d)) (old_row13 (w := w4.drew) _ HR0.out) b5); have r51 : w5.heap[g1]? = some (dotBox d) := (by first | exact row_below HR1.out b5 | exact row_below (w := w4.drew) HR1.out b5 | exact row_below (w := (w4.alloc (dotBox d)).drew) (old_row13 _ HR1.out) b5 | exact row_below (w := w4.drew.alloc (dotBox d)) (old_row13 (w := w4.drew) _ HR1.out) b5); obtain ⟨u0, u1, u2⟩ := line_row r50; obtain ⟨v0, v1⟩ := dot_row13 r51; have f50 := frozen_row r50; have h50 := row_lt r50; have h51 := row_lt r51; have B5 : Below w3.heap.size w3 w5 := (by first | exact below_then B4.out.drew b5 | exact below_then (below_new B4.out.drew _) b5 | exact below_then (below_new B4.out _).drew b5); have u2a : ∀ o, (w5.alloc o).cell? ⟨w.heap.size, 2, none⟩ = some (.slice z.ba z.bn z.bc) := fun o => (World.cell?_alloc_lt w5 o _ h50).trans u2)
      | (go_at_call 48; refine (IN.out _ _ (by first | exact B5 | exact below_new B5 _) (by first | exact heap_alloc_new w5 _ | exact row_below (w := (w4.drew.alloc (dotBox d))) (heap_alloc_new w4.drew _) b5 | exact row_below (w := (w4.alloc (dotBox d)).drew) (heap_alloc_new w4 _) b5) (by have h1 := B4.out.size; have h2 := B5.size; first | exact h2 | exact h1)).mono ?_; rintro e w6 ⟨u, rfl, hu, hun, b6, s6, k6⟩; have hlt : w.heap.size < w1.heap.size := (by have h1 := HSZ.out; have h2 := HG.out; omega); have r60 : w6.heap[w.heap.size]? = some (lineBox z) := (b6.block w.heap.size hlt).trans (by first | exact r50 | exact old_row13 _ r50); obtain ⟨t0, t1, t2⟩ := line_row r60; have f60 := frozen_row r60; have hg2l : g2 < w1.heap.size := (by have h1 := HSZ.out; omega); have r62 : w6.heap[g2]? = some (lineBox ⟨0, none, 0, 0, none, 0, 0⟩) := (b6.block g2 hg2l).trans (by first | exact row_below Q2.out B5 | exact old_row13 _ (row_below Q2.out B5)); have hw1s : w.heap.size ≤ w1.heap.size := B1.out.size; have B6 : Below w.heap.size w w6 := (by first | exact (below_then B3.out B5).trans (b6.mono hw1s) | exact (below_new (below_then B3.out B5) _).trans (b6.mono hw1s)); have hs56 : w5.heap.size ≤ w6.heap.size := (by first | exact s6 | exact Nat.le_trans (below_new (Below.refl w5.heap.size w5) (dotBox d)).size s6); have hB6 : Below w3.heap.size w3 w5 ∧ (∀ j, (∀ q, (Value.slice z.ba z.bn z.bc).ownBlock = some q → j ≠ q) → j < w3.heap.size → w6.heap[j]? = w3.heap[j]?) := ⟨B5, fun j hj hl => (k6 j hj (by have h1 := B5.size; first | omega | (simp only [World.size_alloc]; omega))).trans (by first | exact B5.block j hl | exact (below_new B5 _).block j hl)⟩))
    all_goals
      have rA : (w6.setCell ⟨w.heap.size, 2, none⟩ (.slice u.a (z.bn + 1) u.c)).heap[w.heap.size]? = some (lineBox ⟨z.key, z.ca, z.cn, z.cc, u.a, z.bn + 1, u.c⟩) := by rw [set_row r60 2 _]; rfl
      have rB : (w6.setCell ⟨w.heap.size, 2, none⟩ (.slice u.a (z.bn + 1) u.c)).heap[g2]? = some (lineBox ⟨0, none, 0, 0, none, 0, 0⟩) := row_setCell r62 _ _ (by have := HG.out; omega)
      have FF := Lib.hid (FIN.out w6 u hu hun B6 (Nat.le_trans hB6.1.size hs56) hB6.2)
      obtain ⟨x0, x1, x2⟩ := line_row rA
      obtain ⟨y0, y1, y2⟩ := line_row rB
      have fB := frozen_row rB
      dsimp only at x0 x1 x2 y0 y1 y2
      clear hu hun B6 hB6 r60 r62 t0 t1 t2 f60 b6 s6 k6 b5 rA
      generalize w6.setCell ⟨w.heap.size, 2, none⟩ (.slice u.a (z.bn + 1) u.c) = w7 at x0 x1 x2 y0 y1 y2 fB FF rB ⊢
      go_wp2_with fail
      refine bodyPost_ret (v := LnR.agg ⟨z.key, z.ca, z.cn, z.cc, u.a, z.bn + 1, u.c⟩) (results_cell_row rfl _ _ g2 37 _ (0, 0) _ rfl (set3row rB) Tryz.underlying37 rfl (by kernel_rfl)) rfl ?_
      exact FF.out
end Go.Proofs.YtfljhnalmiibeaaGreat

