/- Layer 12: which expressions are formed: the document. -/
import Derived.Test.YtkpkkkmokgmhfaaExpDepth
namespace Go.Proofs.Ytkpkkkmokgmhfaa
set_option maxRecDepth 100000
open Go.RowKit Go.MapKept

theorem bne_mz {a b : Nat} {c : Int} (h : ¬ a = b) (hc : c = b) : ((a : Int) != c) = true := by subst hc; simp [bne]; omega
theorem bne_mz' {a b : Nat} {c : Int} (h : a = b) (hc : c = b) : ((a : Int) != c) = false := by subst hc; subst h; simp [bne]
set_option maxHeartbeats 51200000 in
theorem refFormed_any : ∀ (d : Nat) (e : E6) (w : World), ReadsE w e → withinB d e = true → d ≤ 1000 → Calls Try.prog 61 #[e.agg, .int .i64 (d : Int)] w fun r w' => r = .returned (.bool (everyB form1 d e)) ∧ Below w.heap.size w w'
  | 0, e, w, _, hd, _ => by cases hd
  | d + 1, e, w, h, hd, hdl => by
    obtain ⟨d', hd', hkid⟩ := within_of hd
    obtain rfl : d = d' := by omega
    have IH : Hid (∀ x W, ReadsE W x → withinB d x = true → Calls Try.prog 61 #[.agg #[.int .i64 x.k, .int .i64 x.n, .int .i64 x.v.k, .int .i64 x.v.n, .string x.v.s, .slice x.a x.m x.c], .int .i64 (d : Int)] W fun r w' => r = .returned (.bool (everyB form1 d x)) ∧ Below W.heap.size W w') := fun x W hx hdx => refFormed_any d x W hx hdx (by omega)
    obtain ⟨D, hD⟩ : ∃ D : Int, ((d + 1 : Nat) : Int) = D := ⟨_, rfl⟩
    have q1 : IntKind.i64.wrap (D - 1) = (d : Int) := by rw [wrap_is (by omega)]; omega
    have qd : (D == 0) = false := beq_no (by omega)
    rw [hD]
    obtain ⟨t, ht⟩ : ∃ t, Hid (form1 e = t) := ⟨_, rfl⟩
    obtain ⟨s, hs⟩ : ∃ s, Hid (e.of.all (everyB form1 d) = s) := ⟨_, rfl⟩
    have hr0 : everyB form1 (d + 1) e = (t && s) := by rw [everyB, ht.out, hs.out]
    rw [hr0]
    obtain ⟨ek, en, ev, ea, em, ec, eo⟩ := e
    have HR := Lib.hid h
    have HL : Hid (eo.length = em) := h.len
    have hle : em ≤ 9223372036854775807 := h.le
    have HK := Lib.hid hkid
    have EQ := fun W => run_eqV ev v0 W
    obtain ⟨q, hq0⟩ : ∃ q, Hid (decide (ev = v0) = q) := ⟨_, rfl⟩
    rw [hq0.out] at EQ
    dsimp only at hs HK
    clear hD hd hd' hdl hr0 h hkid
    obtain ⟨w1, hw1⟩ : ∃ w1, w1 = (w.alloc (exprBox (⟨ek, en, ev, ea, em, ec, eo⟩ : E6))) := ⟨_, rfl⟩
    have HW := Lib.hid hw1
    have R0 : Hid (w1.heap[w.heap.size]? = some (exprBox (⟨ek, en, ev, ea, em, ec, eo⟩ : E6))) := by rw [hw1]; exact new_row _ _ rfl
    have HB : Hid (Below w.heap.size w w1) := by rw [hw1]; exact below_new (Below.refl _ _) _
    have SZ : Hid (w1.heap.size = w.heap.size + 1) := by show _ = _; rw [hw1]; simp only [World.size_alloc]
    obtain ⟨p0_0, p0_1, p0_2, p0_3, p0_4, p0_5⟩ := expr_row R0.out
    clear hw1
    dsimp only at p0_0 p0_1 p0_2 p0_3 p0_4 p0_5
    rcases Decidable.em (ek = 0) with h0 | h0
    · have ht2 : Hid (t = (decide (em = 0) && (decide (0 ≤ en) && q))) := by show _ = _; rw [← ht.out, form1, if_pos h0, hq0.out]
      subst h0
      clear ht hq0
      by_cases h1 : 0 ≤ en
      · have h1' : decide (0 ≤ en) = true := decide_eq_true h1
        cases q with
        | false =>
          have hf : Hid (t = false) := by show _ = _; rw [ht2.out, Bool.and_false, Bool.and_false]
          go_enter Try.func61, Try.ntmps61
          go_upto_region 1 with fail
          rw [show (w.alloc (exprBox (⟨0, en, ev, ea, em, ec, eo⟩ : E6))) = w1 from HW.out.symm]
          clear HW
          go_wp2_with fail
          go_ret
          exact ⟨ret_bool (by rw [hf.out]; rfl), HB.out⟩
        | true =>
          rcases Nat.eq_zero_or_pos em with h2 | h2
          · have hs2 : Hid (s = true) := by show _ = _; rw [← hs.out, List.eq_nil_of_length_eq_zero (HL.out.trans h2)]; rfl
            have hf : Hid (t = true) := by show _ = _; rw [ht2.out, decide_eq_true h2, decide_eq_true h1]; rfl
            have e2 : ((em : Int) == 0) = true := beq_yes (by omega)
            clear h2
            go_enter Try.func61, Try.ntmps61
            go_upto_region 1 with fail
            rw [show (w.alloc (exprBox (⟨0, en, ev, ea, em, ec, eo⟩ : E6))) = w1 from HW.out.symm]
            clear HW
            go_wp2_with fail
            go_ret
            exact ⟨ret_bool (by rw [hf.out, hs2.out]; rfl), HB.out⟩
          · have hf : Hid (t = false) := by show _ = _; rw [ht2.out, decide_eq_false (by omega)]; rfl
            have e2 : ((em : Int) == 0) = false := beq_no (by omega)
            clear h2
            go_enter Try.func61, Try.ntmps61
            go_upto_region 1 with fail
            rw [show (w.alloc (exprBox (⟨0, en, ev, ea, em, ec, eo⟩ : E6))) = w1 from HW.out.symm]
            clear HW
            go_wp2_with fail
            go_ret
            exact ⟨ret_bool (by rw [hf.out]; rfl), HB.out⟩
      · have h1' : decide (0 ≤ en) = false := decide_eq_false h1
        have h1'' : en < 0 := by omega
        have hf : Hid (t = false) := by show _ = _; rw [ht2.out, h1']; simp
        go_enter Try.func61, Try.ntmps61
        go_upto_region 1 with fail
        rw [show (w.alloc (exprBox (⟨0, en, ev, ea, em, ec, eo⟩ : E6))) = w1 from HW.out.symm]
        clear HW
        go_wp2_with fail
        go_ret
        exact ⟨ret_bool (by rw [hf.out]; rfl), HB.out⟩
    rcases Decidable.em (ek = 1) with h1 | h1
    · have ht2 : Hid (t = (decide (em = 0) && (decide (en = 0) && mayV ev))) := by show _ = _; rw [← ht.out, form1, if_neg h0, if_pos h1]
      subst h1
      clear ht hq0 h0
      obtain ⟨my, hmy⟩ : ∃ my, Hid (mayV ev = my) := ⟨_, rfl⟩
      rw [hmy.out] at ht2
      have C : Hid (∀ W, Calls Try.prog 10 #[.agg #[.int .i64 ev.k, .int .i64 ev.n, .string ev.s]] W fun r w' => r = .returned (.bool my) ∧ Below W.heap.size W w') := fun W => by rw [← hmy.out]; exact refValue_any ev W
      go_enter Try.func61, Try.ntmps61
      go_upto_region 1 with fail
      rw [show (w.alloc (exprBox (⟨1, en, ev, ea, em, ec, eo⟩ : E6))) = w1 from HW.out.symm]
      clear HW
      go_wp2_with fail
      refine (C.out _).mono ?_
      rintro r2 w2 ⟨rfl, b2⟩
      have HB2 := Lib.hid (below_then HB.out b2)
      obtain ⟨p0_0', p0_1', p0_2', p0_3', p0_4', p0_5'⟩ := expr_row (row_below R0.out b2)
      dsimp only at p0_0' p0_1' p0_2' p0_3' p0_4' p0_5'
      clear b2 p0_0 p0_1 p0_2 p0_3 p0_4 p0_5 C hmy
      cases my with
      | false =>
        have hf : Hid (t = false) := by show _ = _; rw [ht2.out, Bool.and_false, Bool.and_false]
        go_wp2_with fail
        go_ret
        exact ⟨ret_bool (by rw [hf.out]; rfl), HB2.out⟩
      | true =>
        rcases Decidable.em (en = 0) with h3 | h3
        · have e3 := beq_yes h3
          rcases Nat.eq_zero_or_pos em with h2 | h2
          · have hs2 : Hid (s = true) := by show _ = _; rw [← hs.out, List.eq_nil_of_length_eq_zero (HL.out.trans h2)]; rfl
            have hf : Hid (t = true) := by show _ = _; rw [ht2.out, decide_eq_true h2, decide_eq_true h3]; rfl
            have e2 : ((em : Int) == 0) = true := beq_yes (by omega)
            clear h2 h3
            go_wp2_with fail
            go_ret
            exact ⟨ret_bool (by rw [hf.out, hs2.out]; rfl), HB2.out⟩
          · have hf : Hid (t = false) := by show _ = _; rw [ht2.out, decide_eq_false (by omega)]; rfl
            have e2 : ((em : Int) == 0) = false := beq_no (by omega)
            clear h2 h3
            go_wp2_with fail
            go_ret
            exact ⟨ret_bool (by rw [hf.out]; rfl), HB2.out⟩
        · have e3 := beq_no h3
          have hf : Hid (t = false) := by show _ = _; rw [ht2.out, decide_eq_false h3]; simp
          clear h3
          go_wp2_with fail
          go_ret
          exact ⟨ret_bool (by rw [hf.out]; rfl), HB2.out⟩
    by_cases h2 : 2 ≤ ek ∧ ek ≤ 10
    rotate_left
    · have hf : Hid (t = false) := by show _ = _; rw [← ht.out, form1, if_neg h0, if_neg h1, if_neg h2]
      have g0 := beq_no (show ¬ ek = 0 by omega)
      have g1 := beq_no (show ¬ ek = 1 by omega)
      have g2 := beq_no (show ¬ ek = 2 by omega)
      have g3 := beq_no (show ¬ ek = 3 by omega)
      have g4 := beq_no (show ¬ ek = 4 by omega)
      have g5 := beq_no (show ¬ ek = 5 by omega)
      have g6 := beq_no (show ¬ ek = 6 by omega)
      have g7 := beq_no (show ¬ ek = 7 by omega)
      have g8 := beq_no (show ¬ ek = 8 by omega)
      have g9 := beq_no (show ¬ ek = 9 by omega)
      have g10 := beq_no (show ¬ ek = 10 by omega)
      clear h0 h1 h2 ht hq0
      go_enter Try.func61, Try.ntmps61
      go_upto_region 1 with fail
      rw [show (w.alloc (exprBox (⟨ek, en, ev, ea, em, ec, eo⟩ : E6))) = w1 from HW.out.symm]
      clear HW
      go_wp2_with fail
      go_ret
      exact ⟨ret_bool (by rw [hf.out]; rfl), HB.out⟩
    obtain ⟨mz, hmz⟩ : ∃ mz, Hid (manyZ ek = mz) := ⟨_, rfl⟩
    have ht2 : Hid (t = (decide (em = mz) && (decide (en = 0) && q))) := by show _ = _; rw [← ht.out, form1, if_neg h0, if_neg h1, if_pos h2, hq0.out, hmz.out]
    clear ht hq0
    have HK2 := Lib.hid h2
    clear h0 h1 h2
    go_enter Try.func61, Try.ntmps61
    go_upto_region 1 with fail
    rw [show (w.alloc (exprBox (⟨ek, en, ev, ea, em, ec, eo⟩ : E6))) = w1 from HW.out.symm]
    clear HW
    go_upto_block 0 with fail
    go_cut [5] from 11 to 55 (fun s wz => s = .int .i64 (mz : Int) ∧ wz = w1)
    case first =>
      rcases (show ek = 2 ∨ ek = 3 ∨ ek = 4 ∨ ek = 5 ∨ ek = 6 ∨ ek = 7 ∨ ek = 8 ∨ ek = 9 ∨ ek = 10 by have := HK2.out; omega) with rfl | rfl | rfl | rfl | rfl | rfl | rfl | rfl | rfl
      all_goals
        obtain ⟨mi, hmi⟩ : ∃ mi : Int, Hid (mi = (mz : Int)) := ⟨_, rfl⟩
        have hmz2 := hmz.out
        simp only [manyZ] at hmz2
        have hmi2 := hmi.out
        rw [← hmz2] at hmi2
        simp at hmi2
        subst hmi2
        clear hmz hmz2 HK2
        go_wp2_with fail
        go_meet
        exact ⟨by rw [← hmi.out], rfl⟩
    case rest =>
      obtain ⟨rfl, hcw⟩ := hcut
      subst hcw
      clear hmz HK2
      rcases Decidable.em (en = 0) with h3 | h3
      rotate_left
      · have e3 : (en != 0) = true := by simp [bne, beq_no h3]
        have hf : Hid (t = false) := by show _ = _; rw [ht2.out, decide_eq_false h3]; simp
        clear h3
        go_wp2_with fail
        go_ret
        exact ⟨ret_bool (by rw [hf.out]; rfl), HB.out⟩
      have e3 : (en != 0) = false := by simp [bne, h3]
      have H3 := Lib.hid h3
      clear h3
      cases q with
      | false =>
        have hf : Hid (t = false) := by show _ = _; rw [ht2.out]; simp
        go_wp2_with fail
        go_ret
        exact ⟨ret_bool (by rw [hf.out]; rfl), HB.out⟩
      | true =>
      rcases Nat.decEq em mz with h4 | h4
      · have hf : Hid (t = false) := by show _ = _; rw [ht2.out, decide_eq_false h4]; rfl
        have e4 := bne_mz h4 rfl
        clear h4
        go_wp2_with fail
        go_ret
        exact ⟨ret_bool (by rw [hf.out]; rfl), HB.out⟩
      have hf : Hid (t = true) := by show _ = _; rw [ht2.out, decide_eq_true h4, decide_eq_true H3.out]; rfl
      have e4 := bne_mz' h4 rfl
      clear h4
      go_wp2_with fail
      clear p0_0 p0_1 p0_2 p0_3 p0_4 p0_5
      go_loopw [7] (fun i wr => ∃ k : Nat, k ≤ em ∧ i = .int .i64 k ∧ Hid (∀ j y, j < k → eo[j]? = some y → everyB form1 d y = true) ∧ Hid (∃ z, wr.heap[w.heap.size]? = some (exprBox ⟨z, en, ev, ea, em, ec, eo⟩)) ∧ Hid (Below w.heap.size w wr)) (fun i _ => em - (intOf i).toNat)
      case atStart => exact ⟨0, Nat.zero_le _, rfl, (by show ∀ j y, _; intro j y h; exact absurd h (by omega)), ⟨_, R0.out⟩, HB⟩
      case round =>
        clear HB R0
        obtain ⟨k, hk, rfl, hA, hRE, HB⟩ := hrel
        obtain ⟨z, hz⟩ := hRE.out
        have RE := Lib.hid hz
        clear hz hRE
        by_cases hlt : k < em
        · obtain ⟨b, o, x, hab, hb, hx, hxr, hld⟩ := HR.out.at_ hlt
          dsimp only at hab hx
          subst hab
          obtain ⟨d0, d1, d2, d3, d4, d5⟩ := hld wr HB.out
          have HX := Lib.hid hx
          have HXR := Lib.hid (hxr.keep HB.out)
          have y1 : (k : Int) < (em : Int) := by omega
          have y0 : (0 : Int) ≤ (k : Int) := by omega
          obtain ⟨q0, q1_, q2, q3, q4, q5⟩ := expr_row RE.out
          dsimp only at q0 q1_ q2 q3 q4 q5
          clear hb hx hxr hld
          obtain ⟨y, hy⟩ : ∃ y, Hid (everyB form1 d x = y) := ⟨_, rfl⟩
          have C := Lib.hid (IH.out x wr HXR.out (HK.out x (List.mem_of_getElem? HX.out)))
          rw [hy.out] at C
          go_wp2_with fail
          refine C.out.mono ?_
          rintro r3 w3 ⟨rfl, b3⟩
          have HB3 := Lib.hid (below_then HB.out b3)
          have RE3 := Lib.hid (row_below RE.out b3)
          clear b3 C d0 d1 d2 d3 d4 d5 q0 q1_ q2 q3 q4 q5
          cases y with
          | true =>
            have hA2 : Hid (∀ j y, j < k + 1 → eo[j]? = some y → everyB form1 d y = true) := by show ∀ j y, _; exact all_next HX.out hA.out hy.out
            go_wp2_with fail
            exact ⟨⟨k + 1, by omega, by go_num, hA2, ⟨_, RE3.out⟩, HB3⟩, by simp [intOf]; omega⟩
          | false =>
            have hr2 : Hid (s = false) := by show _ = _; rw [← hs.out]; exact all_no HX.out hy.out
            go_wp2_with fail
            go_ret
            exact ⟨ret_bool (by rw [hr2.out, hf.out]; rfl), HB3.out⟩
        · obtain rfl : k = em := by omega
          have y1 : ¬ (k : Int) < (k : Int) := by omega
          obtain ⟨q0, q1_, q2, q3, q4, q5⟩ := expr_row RE.out
          dsimp only at q0 q1_ q2 q3 q4 q5
          have hr2 : Hid (s = true) := by show _ = _; rw [← hs.out]; exact all_yes HL.out hA.out
          go_wp2_with fail
          go_ret
          exact ⟨ret_bool (by rw [hr2.out, hf.out]; rfl), HB.out⟩
end Go.Proofs.Ytkpkkkmokgmhfaa
