/- Layer 12: the kind of an expression: the document. -/
import Derived.Test.YtkpkkkmokgmhfaaExpFormR
import Derived.Test.YtkpkkkmokgmhfaaExpCols
import Derived.Test.YtkpkkkmokgmhfaaExpKind
namespace Go.Proofs.Ytkpkkkmokgmhfaa
set_option maxRecDepth 100000
open Go.RowKit Go.MapKept

set_option maxHeartbeats 6400000 in
theorem refMay_any (e : E6) (w : World) (h : ReadsE w e) : Calls Try.prog 30 #[e.agg] w fun r w' => r = .returned (.int .i64 (amissE e)) ∧ Below w.heap.size w w' := by
  obtain ⟨w1, hw1⟩ : ∃ w1, w1 = (w.alloc (exprBox e)) := ⟨_, rfl⟩
  have HW := Lib.hid hw1
  have R0 : Hid (w1.heap[w.heap.size]? = some (exprBox e)) := by rw [hw1]; exact new_row _ _ rfl
  have HB : Hid (Below w.heap.size w w1) := by rw [hw1]; exact below_new (Below.refl _ _) _
  have SZ : Hid (w1.heap.size = w.heap.size + 1) := by show _ = _; rw [hw1]; simp only [World.size_alloc]
  obtain ⟨p0_0, p0_1, p0_2, p0_3, p0_4, p0_5⟩ := expr_row R0.out
  clear hw1
  obtain ⟨z, hz⟩ : ∃ z, Hid (depthN 20 e = z) := ⟨_, rfl⟩
  obtain ⟨s, hs⟩ : ∃ s, Hid (everyB form1 20 e = s) := ⟨_, rfl⟩
  have hw : Hid (withinB 20 e = true ↔ z ≤ 20) := by show _ ↔ _; rw [← hz.out]; exact depth_within 20 e
  have HR := Lib.hid (h.keep HB.out)
  obtain ⟨r, hr⟩ : ∃ r, Hid (amissE e = r) := ⟨_, rfl⟩
  rw [hr.out]
  have C : Hid (Calls Try.prog 60 #[.agg #[.int .i64 e.k, .int .i64 e.n, .int .i64 e.v.k, .int .i64 e.v.n, .string e.v.s, .slice e.a e.m e.c], .int .i64 20] w1 fun r w' => r = .returned (.int .i64 z) ∧ Below w1.heap.size w1 w') := by rw [← hz.out]; exact refDepth_any 20 e w1 (by omega) HR.out
  clear h hz
  go_enter Try.func30, Try.ntmps30
  go_upto_region 1 with fail
  rw [show (w.alloc (exprBox e)) = w1 from HW.out.symm]
  clear HW
  go_wp2_with fail
  refine C.out.mono ?_
  rintro r2 w2 ⟨rfl, b2⟩
  have HB2 := Lib.hid (below_then HB.out b2)
  have HR2 := Lib.hid (HR.out.keep b2)
  obtain ⟨q0, q1, q2, q3, q4, q5⟩ := expr_row (row_below R0.out b2)
  clear b2 C p0_0 p0_1 p0_2 p0_3 p0_4 p0_5
  by_cases h1 : 20 < z
  · have hr2 : Hid (r = 2) := by
      show _ = _
      have : withinB 20 e = false := by
        cases h : withinB 20 e with
        | false => rfl
        | true => have := hw.out.1 h; omega
      rw [← hr.out, amissE, this]; rfl
    go_wp2_with fail
    go_ret
    exact ⟨ret_int hr2.out.symm, HB2.out⟩
  · have hwt := hw.out.2 (by omega)
    have C : Hid (Calls Try.prog 61 #[.agg #[.int .i64 e.k, .int .i64 e.n, .int .i64 e.v.k, .int .i64 e.v.n, .string e.v.s, .slice e.a e.m e.c], .int .i64 20] w2 fun r w' => r = .returned (.bool s) ∧ Below w2.heap.size w2 w') := by rw [← hs.out]; exact refFormed_any 20 e w2 HR2.out hwt (by omega)
    have hr2 : Hid (r = if s = true then 0 else 1) := by show _ = _; rw [← hr.out, amissE, if_pos hwt, hs.out]
    clear hwt
    go_wp2_with fail
    refine C.out.mono ?_
    rintro r3 w3 ⟨rfl, b3⟩
    have HB3 := Lib.hid (below_then HB2.out b3)
    clear b3 C
    cases s with
    | true =>
      go_wp2_with fail
      go_ret
      exact ⟨ret_int (by rw [hr2.out]; rfl), HB3.out⟩
    | false =>
      go_wp2_with fail
      go_ret
      exact ⟨ret_int (by rw [hr2.out]; rfl), HB3.out⟩

theorem op_kids {e : E6} (h : form1 e = true) (h0 : ¬ e.k = 0) (h1 : ¬ e.k = 1) (hl : e.of.length = e.m) : (∃ x, e.of = [x] ∧ e.m = 1 ∧ (e.k = 9 ∨ e.k = 10)) ∨ ∃ x y, e.of = [x, y] ∧ e.m = 2 ∧ 2 ≤ e.k ∧ e.k ≤ 8 := by
  obtain ⟨h2, h3⟩ := form1_op h h0 h1
  rw [manyZ] at h3
  match ho : e.of, hl with
  | [], hl => simp at hl; split at h3 <;> omega
  | [x], hl =>
    simp at hl
    refine .inl ⟨x, rfl, by omega, ?_⟩
    split at h3
    · assumption
    · omega
  | [x, y], hl =>
    simp at hl
    refine .inr ⟨x, y, rfl, by omega, h2.1, ?_⟩
    split at h3
    · omega
    · omega
  | x :: y :: z :: r, hl => simp at hl; split at h3 <;> omega

set_option maxHeartbeats 12800000 in
theorem refTyped_any (A : Option Addr) (n c : Nat) (ks : List Int) : ∀ (d : Nat) (e : E6) (w : World), d ≤ 1000 → Rd w A n c (vals .i64 ks) → ReadsE w e → withinB d e = true → everyB form1 d e = true → everyB (colOk ks.length) d e = true →
    Calls Try.prog 36 #[e.agg, .slice A n c, .int .i64 (d : Int)] w fun r w' => r = .returned (.tuple #[.int .i64 (kindN d ks e).1, .int .i64 (kindN d ks e).2]) ∧ Below w.heap.size w w'
  | 0, e, w, _, _, _, hd, _, _ => by cases hd
  | d + 1, e, w, hdl, hks, h, hd, hfm, hco => by
    obtain ⟨d', hd', hkid⟩ := within_of hd
    obtain rfl : d = d' := by omega
    obtain ⟨hf1, hfk⟩ := every_of hfm
    obtain ⟨hc1, hck⟩ := every_of hco
    have IH : Hid (∀ x W, Below w.heap.size w W → x ∈ e.of → Calls Try.prog 36 #[.agg #[.int .i64 x.k, .int .i64 x.n, .int .i64 x.v.k, .int .i64 x.v.n, .string x.v.s, .slice x.a x.m x.c], .slice A n c, .int .i64 (d : Int)] W fun r w' => r = .returned (.tuple #[.int .i64 (kindN d ks x).1, .int .i64 (kindN d ks x).2]) ∧ Below W.heap.size W w') := fun x W hW hx =>
      refTyped_any A n c ks d x W (by omega) (hks.below hW) ((h.kid x hx).keep hW) (hkid x hx) (hfk x hx) (hck x hx)
    obtain ⟨D, hD⟩ : ∃ D : Int, ((d + 1 : Nat) : Int) = D := ⟨_, rfl⟩
    have q1 : IntKind.i64.wrap (D - 1) = (d : Int) := by rw [wrap_is (by omega)]; omega
    have qd : (D == 0) = false := beq_no (by omega)
    rw [hD]
    obtain ⟨ek, en, ev, ea, em, ec, eo⟩ := e
    have HR := Lib.hid h
    have HL : Hid (eo.length = em) := h.len
    have hlk : ks.length = n := by simpa using hks.len
    have HKS := Lib.hid hks
    obtain ⟨r, hr⟩ : ∃ r, Hid (kindN (d + 1) ks (⟨ek, en, ev, ea, em, ec, eo⟩ : E6) = r) := ⟨_, rfl⟩
    rw [hr.out]
    dsimp only at hf1 hc1 hkid hfk hck IH
    clear hd hd' h hfm hco hkid hfk hck hks hD hdl
    obtain ⟨w1, hw1⟩ : ∃ w1, w1 = (w.alloc (exprBox (⟨ek, en, ev, ea, em, ec, eo⟩ : E6))) := ⟨_, rfl⟩
    have HW := Lib.hid hw1
    have R0 : Hid (w1.heap[w.heap.size]? = some (exprBox (⟨ek, en, ev, ea, em, ec, eo⟩ : E6))) := by rw [hw1]; exact new_row _ _ rfl
    have HB : Hid (Below w.heap.size w w1) := by rw [hw1]; exact below_new (Below.refl _ _) _
    have SZ : Hid (w1.heap.size = w.heap.size + 1) := by show _ = _; rw [hw1]; simp only [World.size_alloc]
    obtain ⟨p0_0, p0_1, p0_2, p0_3, p0_4, p0_5⟩ := expr_row R0.out
    clear hw1
    dsimp only at p0_0 p0_1 p0_2 p0_3 p0_4 p0_5
    by_cases h0 : ek = 0
    · have hn0 : 0 ≤ en := form1_col hf1 h0
      have hn1 : en < ks.length := by have := hc1; simp only [colOk, h0, decide_true, Bool.not_true, Bool.false_or, decide_eq_true_eq] at this; exact this
      have hr2 : Hid (r = (ks.getD en.toNat 0, 0)) := by show _ = _; rw [← hr.out, kindN, if_pos h0]
      obtain ⟨b, o, u, rfl, _, hu, hcu⟩ := (HKS.out.below HB.out).at_ (k := en.toNat) (by omega)
      obtain ⟨x, hx, rfl⟩ := vals_at hu
      have hr3 : Hid (r = (x, 0)) := by show _ = _; rw [hr2.out, List.getD_eq_getElem?_getD, hx]; rfl
      have g1 : en < (n : Int) := by omega
      subst h0
      clear hu hx hr2 hn1 hr hf1 hc1 hlk
      go_enter Try.func36, Try.ntmps36
      go_upto_region 1 with fail
      rw [show (w.alloc (exprBox (⟨0, en, ev, ea, em, ec, eo⟩ : E6))) = w1 from HW.out.symm]
      clear HW
      go_wp2_with fail
      go_ret2
      exact ⟨by rw [hr3.out]; rfl, HB.out⟩
    by_cases h1 : ek = 1
    · have hr2 : Hid (r = (ev.k, 0)) := by show _ = _; rw [← hr.out, kindN, if_neg h0, if_pos h1]
      subst h1
      clear hr hf1 hc1 hlk h0
      go_enter Try.func36, Try.ntmps36
      go_upto_region 1 with fail
      rw [show (w.alloc (exprBox (⟨1, en, ev, ea, em, ec, eo⟩ : E6))) = w1 from HW.out.symm]
      clear HW
      go_wp2_with fail
      go_ret2
      exact ⟨by rw [hr2.out]; rfl, HB.out⟩
    have g0 := beq_no h0
    have g1 := beq_no h1
    have hr2 : Hid (r = if err1 (eo.map (kindN d ks)) = 0 then (if gets3 ek (at2 0 (eo.map (kindN d ks)) 0) (at2 0 (eo.map (kindN d ks)) 1) = true then (1, 0) else (0, 6)) else (0, err1 (eo.map (kindN d ks)))) := by show _ = _; rw [← hr.out, kindN, if_neg h0, if_neg h1]
    have hem : 0 < em := by
      rcases op_kids hf1 h0 h1 HL.out with ⟨x, h2, h3, h4⟩ | ⟨x, y, h2, h3, h4, h5⟩ <;> (dsimp only at h3; omega)
    obtain ⟨b, o, x, hab, hb, hx, hxr, hld⟩ := HR.out.at_ (j := 0) hem
    dsimp only at hab hx
    have hkids := op_kids hf1 h0 h1 HL.out
    dsimp only at hkids
    subst hab
    obtain ⟨d0, d1, d2, d3, d4, d5⟩ := hld w1 HB.out
    rw [Nat.zero_mul, Nat.add_zero] at d0 d1 d2 d3 d4 d5
    obtain ⟨y, hy⟩ : ∃ y, Hid (kindN d ks x = y) := ⟨_, rfl⟩
    have C := Lib.hid (IH.out x w1 HB.out (List.mem_of_getElem? hx))
    rw [hy.out] at C
    have y1 : (0 : Int) < (em : Int) := by omega
    have HX := Lib.hid hx
    have HKD := Lib.hid hkids
    clear hr h0 h1 hf1 hc1 hb hx hxr hld hem hkids
    go_enter Try.func36, Try.ntmps36
    go_upto_region 1 with fail
    rw [show (w.alloc (exprBox (⟨ek, en, ev, (some ⟨b, o, none⟩), em, ec, eo⟩ : E6))) = w1 from HW.out.symm]
    clear HW
    go_wp2_with fail
    refine C.out.mono ?_
    rintro r2 w2 ⟨rfl, b2⟩
    have HB2 := Lib.hid (below_then HB.out b2)
    have RE2 := Lib.hid (row_below R0.out b2)
    obtain ⟨yk, ye⟩ := y
    dsimp only
    clear b2 C d0 d1 d2 d3 d4 d5 p0_0 p0_1 p0_2 p0_3 p0_4 p0_5
    obtain ⟨p0_0, p0_1, p0_2, p0_3, p0_4, p0_5⟩ := expr_row RE2.out
    dsimp only at p0_0 p0_1 p0_2 p0_3 p0_4 p0_5
    by_cases hy0 : ye = 0
    rotate_left
    · have hr3 : Hid (r = (0, ye)) := by
        show _ = _
        have : err1 (eo.map (kindN d ks)) = ye := err1_at (k := 0) (x := (yk, ye)) (by rw [List.getElem?_map, HX.out, ← hy.out]; rfl) (fun j _ h => absurd h (by omega)) hy0
        rw [hr2.out, this, if_neg hy0]
      have q0 := beq_no hy0
      have q2 : (ye != 0) = true := by simp [bne, q0]
      clear hy0
      go_wp2_with fail
      go_ret2
      exact ⟨by rw [hr3.out]; rfl, HB2.out⟩
    subst hy0
    rcases HKD.out with ⟨x', h2, h3, h4⟩ | ⟨x', z, h2, h3, h4, h5⟩
    · subst h3 h2
      obtain rfl : x' = x := by simpa using HX.out
      obtain ⟨q, hq⟩ : ∃ q, Hid (gets3 ek yk 0 = q) := ⟨_, rfl⟩
      have hr3 : Hid (r = if q = true then (1, 0) else (0, 6)) := by
        show _ = _
        rw [hr2.out]
        simp only [List.map_cons, List.map_nil, hy.out, err1, at2]
        show (if gets3 ek yk 0 = true then _ else _) = _
        rw [hq.out]
      have G := Lib.hid (fun W => gets_any ek yk 0 W)
      rw [hq.out] at G
      clear h4 hr2 hq HKD
      go_wp2_with fail
      refine (G.out _).mono ?_
      rintro r3 w3 ⟨rfl, b3⟩
      have HB3 := Lib.hid (below_then HB2.out b3)
      clear b3 G
      cases q with
      | true =>
        go_wp2_with fail
        go_ret2
        exact ⟨by rw [hr3.out]; rfl, HB3.out⟩
      | false =>
        go_wp2_with fail
        go_ret2
        exact ⟨by rw [hr3.out]; rfl, HB3.out⟩
    · subst h3 h2
      obtain rfl : x' = x := by simpa using HX.out
      obtain ⟨b2, o2, z', hab, hb, hz, hzr, hld⟩ := HR.out.at_ (j := 1) (by show 1 < 2; omega)
      dsimp only at hab hz
      injection hab with hab
      injection hab with hab1 hab2
      subst hab1 hab2
      obtain rfl : z = z' := by simpa using hz
      obtain ⟨d0, d1, d2, d3, d4, d5⟩ := hld w2 HB2.out
      rw [Nat.one_mul] at d0 d1 d2 d3 d4 d5
      obtain ⟨y, hy2⟩ : ∃ y, Hid (kindN d ks z = y) := ⟨_, rfl⟩
      have C := Lib.hid (IH.out z w2 HB2.out (by simp))
      rw [hy2.out] at C
      clear hb hz hzr hld h4 h5 HKD
      go_wp2_with fail
      refine C.out.mono ?_
      rintro r3 w3 ⟨rfl, b3⟩
      have HB3 := Lib.hid (below_then HB2.out b3)
      have RE3 := Lib.hid (row_below RE2.out b3)
      obtain ⟨zk, ze⟩ := y
      dsimp only
      clear b3 C d0 d1 d2 d3 d4 d5 p0_0 p0_1 p0_2 p0_3 p0_4 p0_5
      obtain ⟨p0_0, p0_1, p0_2, p0_3, p0_4, p0_5⟩ := expr_row RE3.out
      dsimp only at p0_0 p0_1 p0_2 p0_3 p0_4 p0_5
      by_cases hz0 : ze = 0
      rotate_left
      · have hr3 : Hid (r = (0, ze)) := by
          show _ = _
          have : err1 ([x', z].map (kindN d ks)) = ze := by simp [hy.out, hy2.out, err1, hz0]
          rw [hr2.out, this, if_neg hz0]
        have q0 := beq_no hz0
        have q2 : (ze != 0) = true := by simp [bne, q0]
        clear hz0
        go_wp2_with fail
        go_ret2
        exact ⟨by rw [hr3.out]; rfl, HB3.out⟩
      subst hz0
      obtain ⟨q, hq⟩ : ∃ q, Hid (gets3 ek yk zk = q) := ⟨_, rfl⟩
      have hr3 : Hid (r = if q = true then (1, 0) else (0, 6)) := by
        show _ = _
        rw [hr2.out]
        simp only [List.map_cons, List.map_nil, hy.out, hy2.out, err1, at2]
        show (if gets3 ek yk zk = true then _ else _) = _
        rw [hq.out]
      have G := Lib.hid (fun W => gets_any ek yk zk W)
      rw [hq.out] at G
      clear hr2 hq
      go_wp2_with fail
      refine (G.out _).mono ?_
      rintro r4 w4 ⟨rfl, b4⟩
      have HB4 := Lib.hid (below_then HB3.out b4)
      clear b4 G
      cases q with
      | true =>
        go_wp2_with fail
        go_ret2
        exact ⟨by rw [hr3.out]; rfl, HB4.out⟩
      | false =>
        go_wp2_with fail
        go_ret2
        exact ⟨by rw [hr3.out]; rfl, HB4.out⟩
end Go.Proofs.Ytkpkkkmokgmhfaa
