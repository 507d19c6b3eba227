/- Layer 12: what an expression says: the document. -/
import Derived.Test.YtkpkkkmokgmhfaaExpSaysR
import Derived.Test.YtkpkkkmokgmhfaaExpSaysR2
import Derived.Test.YtkpkkkmokgmhfaaExpSaysR3
import Derived.Test.YtkpkkkmokgmhfaaExpTyped
import Derived.Test.YtkpkkkmokgmhfaaExpSays
namespace Go.Proofs.Ytkpkkkmokgmhfaa
set_option maxRecDepth 100000
open Go.RowKit Go.MapKept

theorem gets9 (x : Int) : gets3 9 x x = gets3 9 x 0 := by
  rw [gets3, gets3, if_pos (by omega), if_pos (by omega)]
  cases h : (decide (x = 0) || decide (x = 1)) <;> rfl
theorem gets10 (x y : Int) : gets3 10 x y = true := by rw [gets3, if_neg (by omega), if_neg (by omega)]
theorem says9' (a x y : V3) : saysO 9 a x = saysO 9 a y := rfl
theorem says10' (a x y : V3) : saysO 10 a x = saysO 10 a y := rfl
/-- what the document's operator says, of kids' values -/
def outO (k : Int) (a b : V3) : V3 × Int := if gets3 k a.k b.k = true then saysO k a b else (v0, 6)
theorem refSaysTwo (k : Int) (hk : 2 ≤ k ∧ k ≤ 8) (a b : V3) (w : World) (ha : mayV a = true) (hb : mayV b = true) : Calls Try.prog 62 #[.int .i64 k, .agg #[.int .i64 a.k, .int .i64 a.n, .string a.s], .agg #[.int .i64 b.k, .int .i64 b.n, .string b.s]] w fun r w' => r = .returned (.tuple #[(outO k a b).1.agg, .int .i64 (outO k a b).2]) ∧ Below w.heap.size w w' := by
  rcases (show k = 2 ∨ k = 3 ∨ k = 4 ∨ k = 5 ∨ k = 6 ∨ k = 7 ∨ k = 8 by omega) with rfl | rfl | rfl | rfl | rfl | rfl | rfl
  · exact refSays2_any a b w ha hb
  · exact refSays3_any a b w ha hb
  · exact refSays4_any a b w ha hb
  · exact refSays5_any a b w
  · exact refSays6_any a b w
  · exact refSays7_any a b w
  · exact refSays8_any a b w
theorem refSaysOne (k : Int) (hk : k = 9 ∨ k = 10) (a : V3) (w : World) : Calls Try.prog 62 #[.int .i64 k, .agg #[.int .i64 a.k, .int .i64 a.n, .string a.s], .agg #[.int .i64 a.k, .int .i64 a.n, .string a.s]] w fun r w' => r = .returned (.tuple #[(outO k a v0).1.agg, .int .i64 (outO k a v0).2]) ∧ Below w.heap.size w w' := by
  rcases hk with rfl | rfl
  · have h := refSays9_any a w
    rw [gets9, says9' a a v0] at h
    exact h
  · have h := refSays10_any a w
    rw [gets10, says10' a a v0] at h
    rw [show outO 10 a v0 = saysO 10 a v0 by rw [outO, gets10]; rfl]
    exact h

set_option maxHeartbeats 25600000 in
theorem refEval1_any (A : Option Addr) (n c : Nat) (row : List V3) (hm : ∀ v ∈ row, mayV v = true) : ∀ (d : Nat) (e : E6) (w : World), d ≤ 1000 → RdV w A n c row → ReadsE w e → withinB d e = true → everyB form1 d e = true →
    Calls Try.prog 31 #[e.agg, .slice A n c, .int .i64 (d : Int)] w fun r w' => r = .returned (.tuple #[(saysN d row e).1.agg, .int .i64 (saysN d row e).2]) ∧ Below w.heap.size w w'
  | 0, e, w, _, _, _, hd, _ => by cases hd
  | d + 1, e, w, hdl, hks, h, hd, hfm => by
    obtain ⟨d', hd', hkid⟩ := within_of hd
    obtain rfl : d = d' := by omega
    obtain ⟨hf1, hfk⟩ := every_of hfm
    have IH : Hid (∀ x W, Below w.heap.size w W → x ∈ e.of → Calls Try.prog 31 #[.agg #[.int .i64 x.k, .int .i64 x.n, .int .i64 x.v.k, .int .i64 x.v.n, .string x.v.s, .slice x.a x.m x.c], .slice A n c, .int .i64 (d : Int)] W fun r w' => r = .returned (.tuple #[(saysN d row x).1.agg, .int .i64 (saysN d row x).2]) ∧ Below W.heap.size W w') := fun x W hW hx =>
      refEval1_any A n c row hm d x W (by omega) (hks.below hW) ((h.kid x hx).keep hW) (hkid x hx) (hfk x hx)
    have HM : Hid (∀ x ∈ e.of, mayV (saysN d row x).1 = true) := by show ∀ x ∈ e.of, _; exact fun x hx => says_may d row x hm (hfk x hx)
    obtain ⟨D, hD⟩ : ∃ D : Int, ((d + 1 : Nat) : Int) = D := ⟨_, rfl⟩
    have q1 : IntKind.i64.wrap (D - 1) = (d : Int) := by rw [wrap_is (by omega)]; omega
    have qd : (D == 0) = false := beq_no (by omega)
    rw [hD]
    obtain ⟨ek, en, ev, ea, em, ec, eo⟩ := e
    have HR := Lib.hid h
    have HL : Hid (eo.length = em) := h.len
    have hlk : row.length = n := hks.len
    have hlk2 := hks.le
    have HKS := Lib.hid hks
    obtain ⟨r, hr⟩ : ∃ r, Hid (saysN (d + 1) row (⟨ek, en, ev, ea, em, ec, eo⟩ : E6) = r) := ⟨_, rfl⟩
    rw [hr.out]
    dsimp only at hf1 hkid hfk IH HM
    clear hd hd' h hfm hkid hfk hks hD hdl
    obtain ⟨w1, hw1⟩ : ∃ w1, w1 = ((w.alloc (exprBox (⟨ek, en, ev, ea, em, ec, eo⟩ : E6))).alloc (valBox v0)) := ⟨_, rfl⟩
    have HW := Lib.hid hw1
    have R0 : Hid (w1.heap[w.heap.size]? = some (exprBox (⟨ek, en, ev, ea, em, ec, eo⟩ : E6))) := by rw [hw1]; exact old_row _ (new_row _ _ rfl)
    have R1 : Hid (w1.heap[w.heap.size + 1]? = some (valBox v0)) := by rw [hw1]; exact new_row _ _ (by simp only [World.size_alloc])
    have HB : Hid (Below w.heap.size w w1) := by rw [hw1]; exact below_new (below_new (Below.refl _ _) _) _
    have SZ : Hid (w1.heap.size = w.heap.size + 1 + 1) := by show _ = _; rw [hw1]; simp only [World.size_alloc]
    obtain ⟨p0_0, p0_1, p0_2, p0_3, p0_4, p0_5⟩ := expr_row R0.out
    obtain ⟨p1_0, p1_1, p1_2⟩ := valB_row R1.out
    clear hw1
    dsimp only at p0_0 p0_1 p0_2 p0_3 p0_4 p0_5
    have f0 := frozen_row R1.out
    by_cases h0 : ek = 0
    · have hn0 : 0 ≤ en := form1_col hf1 h0
      by_cases hn1 : en < n
      · obtain ⟨b, o, x, rfl, hb, hx, hld⟩ := (HKS.out.below HB.out).val (k := en.toNat) (by omega)
        obtain ⟨d0, d1, d2⟩ := hld w1 (Below.refl _ _)
        have hr3 : Hid (r = (x, 0)) := by show _ = _; rw [← hr.out, saysN, if_pos h0, if_pos (by dsimp only; omega), List.getD_eq_getElem?_getD, hx]; rfl
        have g2 : ¬ ((n : Int) ≤ en) := by omega
        subst h0
        clear hb hx hld hr hf1 hlk
        go_enter Try.func31, Try.ntmps31
        go_upto_region 1 with fail
        rw [show ((w.alloc (exprBox (⟨0, en, ev, ea, em, ec, eo⟩ : E6))).alloc (valBox v0)) = w1 from HW.out.symm]
        clear HW
        go_wp2_with fail
        refine bodyPost_ret (v := .tuple #[(x).agg, .int .i64 0]) (results_row_tmp rfl _ _ (w.heap.size + 1) 23 _ (0, 0) _ rfl (set3 R1.out) Try.underlying23 rfl (by kernel_rfl) rfl) rfl ?_
        exact ⟨by rw [hr3.out], below_set3 HB.out (by omega)⟩
      · have hr3 : Hid (r = (v0, 4)) := by show _ = _; rw [← hr.out, saysN, if_pos h0, if_neg (by dsimp only; omega)]
        have g2 : (n : Int) ≤ en := by omega
        subst h0
        clear hr hf1 hlk
        go_enter Try.func31, Try.ntmps31
        go_upto_region 1 with fail
        rw [show ((w.alloc (exprBox (⟨0, en, ev, ea, em, ec, eo⟩ : E6))).alloc (valBox v0)) = w1 from HW.out.symm]
        clear HW
        go_wp2_with fail
        refine bodyPost_ret (v := .tuple #[(v0).agg, .int .i64 4]) (results_row_tmp rfl _ _ (w.heap.size + 1) 23 _ (0, 0) _ rfl (set3 R1.out) Try.underlying23 rfl (by kernel_rfl) rfl) rfl ?_
        exact ⟨by rw [hr3.out], below_set3 HB.out (by omega)⟩
    by_cases h1 : ek = 1
    · have hr3 : Hid (r = (ev, 0)) := by show _ = _; rw [← hr.out, saysN, if_neg h0, if_pos h1]
      subst h1
      clear hr hf1 hlk h0
      go_enter Try.func31, Try.ntmps31
      go_upto_region 1 with fail
      rw [show ((w.alloc (exprBox (⟨1, en, ev, ea, em, ec, eo⟩ : E6))).alloc (valBox v0)) = w1 from HW.out.symm]
      clear HW
      go_wp2_with fail
      refine bodyPost_ret (v := .tuple #[(ev).agg, .int .i64 0]) (results_row_tmp rfl _ _ (w.heap.size + 1) 23 _ (0, 0) _ rfl (set3 R1.out) Try.underlying23 rfl (by kernel_rfl) rfl) rfl ?_
      exact ⟨by rw [hr3.out], below_set3 HB.out (by omega)⟩
    have g0 := beq_no h0
    have g1 := beq_no h1
    obtain ⟨xs, hxs⟩ : ∃ xs, Hid (eo.map (saysN d row) = xs) := ⟨_, rfl⟩
    have hr2 : Hid (r = if err1 xs = 0 then outO ek (at2 v0 xs 0) (at2 v0 xs 1) else (v0, err1 xs)) := by show _ = _; rw [← hr.out, saysN, if_neg h0, if_neg h1]; dsimp only; rw [hxs.out]; rfl
    have hkids := op_kids hf1 h0 h1 HL.out
    dsimp only at hkids
    have hem : 0 < em := by
      rcases hkids with ⟨x, h2, h3, h4⟩ | ⟨x, y, h2, h3, h4, h5⟩ <;> omega
    obtain ⟨b, o, x, hab, hb, hx, hxr, hld⟩ := HR.out.at_ (j := 0) hem
    dsimp only at hab hx
    subst hab
    obtain ⟨d0, d1, d2, d3, d4, d5⟩ := hld w1 HB.out
    rw [Nat.zero_mul, Nat.add_zero] at d0 d1 d2 d3 d4 d5
    obtain ⟨y, hy⟩ : ∃ y, Hid (saysN d row x = y) := ⟨_, rfl⟩
    have C := Lib.hid (IH.out x w1 HB.out (List.mem_of_getElem? hx))
    rw [hy.out] at C
    have hmy := HM.out x (List.mem_of_getElem? hx)
    rw [hy.out] at hmy
    have HMY := Lib.hid hmy
    have y1 : (0 : Int) < (em : Int) := by omega
    have HX := Lib.hid hx
    have HKD := Lib.hid hkids
    clear hr h0 h1 hf1 hb hx hxr hld hem hkids hmy p1_0 p1_1 p1_2
    go_enter Try.func31, Try.ntmps31
    go_upto_region 1 with fail
    rw [show ((w.alloc (exprBox (⟨ek, en, ev, (some ⟨b, o, none⟩), em, ec, eo⟩ : E6))).alloc (valBox v0)) = w1 from HW.out.symm]
    clear HW
    go_wp2_with fail
    refine C.out.mono ?_
    rintro r2 w2 ⟨rfl, b2⟩
    obtain ⟨yv, ye⟩ := y
    dsimp only
    obtain ⟨w3, hw3⟩ : ∃ w3, w3 = w2.alloc (valBox yv) := ⟨_, rfl⟩
    have HW3 := Lib.hid hw3
    have b23 : Below w2.heap.size w2 w3 := by rw [hw3]; exact below_new (Below.refl _ _) _
    have b3 := below_then b2 b23
    have RY : Hid (w3.heap[w2.heap.size]? = some (valBox yv)) := by rw [hw3]; exact heap_alloc_new _ _
    have HB3 := Lib.hid (below_then HB.out b3)
    have RE3 := Lib.hid (row_below R0.out b3)
    have RZ3 := Lib.hid (row_below R1.out b3)
    clear b2 b3 b23 hw3 C d0 d1 d2 d3 d4 d5 p0_0 p0_1 p0_2 p0_3 p0_4 p0_5 f0 R0 R1 HB SZ
    go_upto_region 10 with fail
    rw [show w2.alloc (valBox yv) = w3 from HW3.out.symm]
    clear HW3
    generalize w2.heap.size = gy at RY ⊢
    obtain ⟨p0_0, p0_1, p0_2, p0_3, p0_4, p0_5⟩ := expr_row RE3.out
    dsimp only at p0_0 p0_1 p0_2 p0_3 p0_4 p0_5
    by_cases hy0 : ye = 0
    rotate_left
    · have hr3 : Hid (r = (v0, ye)) := by
        show _ = _
        have : err1 xs = ye := err1_at (k := 0) (x := (yv, ye)) (by rw [← hxs.out, List.getElem?_map, HX.out, ← hy.out]; rfl) (fun j _ h => absurd h (by omega)) hy0
        rw [hr2.out, this, if_neg hy0]
      have q0 := beq_no hy0
      have q2 : (ye != 0) = true := by simp [bne, q0]
      obtain ⟨z0, z1, z2⟩ := valB_row RZ3.out
      have f3 := frozen_row RZ3.out
      clear hy0
      go_wp2_with fail
      refine bodyPost_ret (v := .tuple #[(v0).agg, .int .i64 ye]) (results_row_tmp rfl _ _ (w.heap.size + 1) 23 _ (0, 0) _ rfl (set3 RZ3.out) Try.underlying23 rfl (by kernel_rfl) rfl) rfl ?_
      exact ⟨by rw [hr3.out], below_set3 HB3.out (by omega)⟩
    subst hy0
    obtain ⟨w4, hw4⟩ : ∃ w4, w4 = w3.alloc (valBox yv) := ⟨_, rfl⟩
    have HW4 := Lib.hid hw4
    have b4 : Below w3.heap.size w3 w4 := by rw [hw4]; exact below_new (Below.refl _ _) _
    have RB : Hid (w4.heap[w3.heap.size]? = some (valBox yv)) := by rw [hw4]; exact heap_alloc_new _ _
    have HB4 := Lib.hid (below_then HB3.out b4)
    have RE4 := Lib.hid (row_below RE3.out b4)
    have RZ4 := Lib.hid (row_below RZ3.out b4)
    have RY4 := Lib.hid (row_below RY.out b4)
    obtain ⟨v0', v1', v2'⟩ := valB_row RY.out
    clear b4 hw4
    go_upto_region 13 with fail
    rw [show w3.alloc (valBox yv) = w4 from HW4.out.symm]
    have HGB : Hid (w.heap.size + 1 < w3.heap.size) := (Array.getElem?_eq_some_iff.1 RZ3.out).1
    have HNY : Hid (gy ≠ w3.heap.size) := Nat.ne_of_lt (Array.getElem?_eq_some_iff.1 RY.out).1
    clear HW4 v0' v1' v2' p0_0 p0_1 p0_2 p0_3 p0_4 p0_5 RE3 RZ3 RY
    generalize w3.heap.size = gb at RB HGB HNY ⊢
    obtain ⟨p0_0, p0_1, p0_2, p0_3, p0_4, p0_5⟩ := expr_row RE4.out
    dsimp only at p0_0 p0_1 p0_2 p0_3 p0_4 p0_5
    rcases HKD.out with ⟨x', h2, h3, h4⟩ | ⟨x', z, h2, h3, h4, h5⟩
    · subst h3 h2
      obtain rfl : x' = x := by simpa using HX.out
      have hr3 : Hid (r = outO ek yv v0) := by
        show _ = _
        rw [hr2.out, ← hxs.out]
        simp only [List.map_cons, List.map_nil, hy.out, err1, at2]
        rfl
      have CS := Lib.hid (fun W => refSaysOne ek h4 yv W)
      rw [← hr3.out] at CS
      obtain ⟨rv, re⟩ := r
      dsimp only at CS
      obtain ⟨v0', v1', v2'⟩ := valB_row RY4.out
      obtain ⟨b0', b1', b2'⟩ := valB_row RB.out
      clear h4 hr2 HKD hr3
      go_wp2_with fail
      refine (CS.out _).mono ?_
      rintro r5 w5 ⟨rfl, b5⟩
      have HB5 := Lib.hid (below_then HB4.out b5)
      have RZ5 := Lib.hid (row_below RZ4.out b5)
      clear b5 CS v0' v1' v2' b0' b1' b2' p0_0 p0_1 p0_2 p0_3 p0_4 p0_5
      obtain ⟨z0, z1, z2⟩ := valB_row RZ5.out
      have f5 := frozen_row RZ5.out
      go_wp2_with fail
      refine bodyPost_ret (v := .tuple #[(rv).agg, .int .i64 re]) (results_row_tmp rfl _ _ (w.heap.size + 1) 23 _ (0, 0) _ rfl (set3 RZ5.out) Try.underlying23 rfl (by kernel_rfl) rfl) rfl ?_
      exact ⟨rfl, below_set3 HB5.out (by omega)⟩
    · subst h3 h2
      obtain rfl : x' = x := by simpa using HX.out
      obtain ⟨b2, o2, z', hab, hb, hz, hzr, hld⟩ := HR.out.at_ (j := 1) (by show 1 < 2; omega)
      dsimp only at hab hz
      injection hab with hab
      injection hab with hab1 hab2
      subst hab1 hab2
      obtain rfl : z = z' := by simpa using hz
      obtain ⟨d0, d1, d2, d3, d4, d5⟩ := hld w4 HB4.out
      rw [Nat.one_mul] at d0 d1 d2 d3 d4 d5
      obtain ⟨y, hy2⟩ : ∃ y, Hid (saysN d row z = y) := ⟨_, rfl⟩
      have C := Lib.hid (IH.out z w4 HB4.out (by simp))
      have hmz := HM.out z (by simp)
      rw [hy2.out] at C hmz
      have HMZ := Lib.hid hmz
      clear hb hz hzr hld HKD hmz
      have HK28 : Hid (2 ≤ ek ∧ ek ≤ 8) := ⟨h4, h5⟩
      clear h4 h5
      go_wp2_with fail
      refine C.out.mono ?_
      rintro r5 w5 ⟨rfl, b5⟩
      obtain ⟨zv, ze⟩ := y
      dsimp only
      obtain ⟨w6, hw6⟩ : ∃ w6, w6 = w5.alloc (valBox zv) := ⟨_, rfl⟩
      have HW6 := Lib.hid hw6
      have b56 : Below w5.heap.size w5 w6 := by rw [hw6]; exact below_new (Below.refl _ _) _
      have b6 := below_then b5 b56
      have RV6 : Hid (w6.heap[w5.heap.size]? = some (valBox zv)) := by rw [hw6]; exact heap_alloc_new _ _
      have HB6 := Lib.hid (below_then HB4.out b6)
      have RE6 := Lib.hid (row_below RE4.out b6)
      have RZ6 := Lib.hid (row_below RZ4.out b6)
      have RY6 := Lib.hid (row_below RY4.out b6)
      have RB6 := Lib.hid (row_below RB.out b6)
      clear b5 b6 b56 hw6 C d0 d1 d2 d3 d4 d5 p0_0 p0_1 p0_2 p0_3 p0_4 p0_5 RE4 RZ4 RY4 RB HB4
      go_upto_region 15 with fail
      rw [show w5.alloc (valBox zv) = w6 from HW6.out.symm]
      clear HW6
      generalize w5.heap.size = gz at RV6 ⊢
      by_cases hz0 : ze = 0
      rotate_left
      · have hr3 : Hid (r = (v0, ze)) := by
          show _ = _
          have : err1 xs = ze := by rw [← hxs.out]; simp [hy.out, hy2.out, err1, hz0]
          rw [hr2.out, this, if_neg hz0]
        have q0 := beq_no hz0
        have q2 : (ze != 0) = true := by simp [bne, q0]
        obtain ⟨z0, z1, z2⟩ := valB_row RZ6.out
        have f6 := frozen_row RZ6.out
        clear hz0
        go_wp2_with fail
        refine bodyPost_ret (v := .tuple #[(v0).agg, .int .i64 ze]) (results_row_tmp rfl _ _ (w.heap.size + 1) 23 _ (0, 0) _ rfl (set3 RZ6.out) Try.underlying23 rfl (by kernel_rfl) rfl) rfl ?_
        exact ⟨by rw [hr3.out], below_set3 HB6.out (by omega)⟩
      subst hz0
      have hr3 : Hid (r = outO ek yv zv) := by
        show _ = _
        rw [hr2.out, ← hxs.out]
        simp only [List.map_cons, List.map_nil, hy.out, hy2.out, err1, at2]
        rfl
      obtain ⟨w7, hw7⟩ : ∃ w7, w7 = ((w6.setCell ⟨gb, 0, none⟩ (.int .i64 zv.k)).setCell ⟨gb, 1, none⟩ (.int .i64 zv.n)).setCell ⟨gb, 2, none⟩ (.string zv.s) := ⟨_, rfl⟩
      have hgb := HGB.out
      have RB7 : Hid (w7.heap[gb]? = some (valBox zv)) := by rw [hw7]; exact set3 RB6.out
      have ho : ∀ (q : Nat) (ob : Obj), q ≠ gb → w6.heap[q]? = some ob → w7.heap[q]? = some ob := fun q ob hq h => by
        rw [hw7, Below.heap_setCell _ _ _ _ (show q ≠ gb from hq), Below.heap_setCell _ _ _ _ (show q ≠ gb from hq), Below.heap_setCell _ _ _ _ (show q ≠ gb from hq)]; exact h
      have HB7 : Hid (Below w.heap.size w w7) := by rw [hw7]; exact below_set3 HB6.out (by omega)
      have RE7 := Lib.hid (ho _ _ (by omega) RE6.out)
      have RZ7 := Lib.hid (ho _ _ (by omega) RZ6.out)
      have RY7 := Lib.hid (ho _ _ (HNY.out) RY6.out)
      obtain ⟨v0', v1', v2'⟩ := valB_row RV6.out
      obtain ⟨b0', b1', b2'⟩ := valB_row RB6.out
      have fb := frozen_row RB6.out
      have HW7 := Lib.hid hw7
      have CS := Lib.hid (fun W => refSaysTwo ek HK28.out yv zv W HMY.out HMZ.out)
      rw [← hr3.out] at CS
      obtain ⟨rv, re⟩ := r
      dsimp only at CS
      clear hgb ho hw7 RB6 RE6 RZ6 RY6 HB6 hr2 hr3
      go_upto_region 18 with fail
      rw [show ((w6.setCell ⟨gb, 0, none⟩ (.int .i64 zv.k)).setCell ⟨gb, 1, none⟩ (.int .i64 zv.n)).setCell ⟨gb, 2, none⟩ (.string zv.s) = w7 from HW7.out.symm]
      clear HW7 v0' v1' v2' b0' b1' b2' fb
      obtain ⟨p0_0, p0_1, p0_2, p0_3, p0_4, p0_5⟩ := expr_row RE7.out
      dsimp only at p0_0 p0_1 p0_2 p0_3 p0_4 p0_5
      obtain ⟨v0', v1', v2'⟩ := valB_row RY7.out
      obtain ⟨b0', b1', b2'⟩ := valB_row RB7.out
      go_wp2_with fail
      refine (CS.out _).mono ?_
      rintro r8 w8 ⟨rfl, b8⟩
      have HB8 := Lib.hid (below_then HB7.out b8)
      have RZ8 := Lib.hid (row_below RZ7.out b8)
      clear b8 CS v0' v1' v2' b0' b1' b2' p0_0 p0_1 p0_2 p0_3 p0_4 p0_5
      obtain ⟨z0, z1, z2⟩ := valB_row RZ8.out
      have f8 := frozen_row RZ8.out
      go_wp2_with fail
      refine bodyPost_ret (v := .tuple #[(rv).agg, .int .i64 re]) (results_row_tmp rfl _ _ (w.heap.size + 1) 23 _ (0, 0) _ rfl (set3 RZ8.out) Try.underlying23 rfl (by kernel_rfl) rfl) rfl ?_
      exact ⟨rfl, below_set3 HB8.out (by omega)⟩
end Go.Proofs.Ytkpkkkmokgmhfaa
