/- Layer 12: Type, Eval, Holds. -/
import Derived.Test.YtkpkkkmokgmhfaaExpSays
namespace Go.Proofs.Ytkpkkkmokgmhfaa
set_option maxRecDepth 100000
open Go.RowKit Go.MapKept

theorem run_capt (W : World) (g : Nat) : (Instr.makeFunc (.func 33) #[] #[.pointer (some ⟨g, 0, none⟩)]).run Try.prog W = .ok (.func (.func 33) #[] #[.pointer (some ⟨g, 0, none⟩)]) W := rfl
theorem amiss_zero {e : E6} (h : amissE e = 0) : withinB 20 e = true ∧ everyB form1 20 e = true := by
  rw [amissE] at h
  split at h
  · rename_i h1
    split at h
    · rename_i h2; exact ⟨h1, h2⟩
    · exact absurd h (by decide)
  · exact absurd h (by decide)
set_option maxHeartbeats 12800000 in
theorem type_any (e : E6) (A : Option Addr) (n c : Nat) (ks : List Int) (w : World) (h : ReadsE w e) (hks : Rd w A n c (vals .i64 ks)) : Calls Try.prog 17 #[e.agg, .slice A n c] w fun r w' => r = .returned (.tuple #[.int .i64 (typeE e ks).1, .int .i64 (typeE e ks).2]) ∧ Below w.heap.size w w' := by
  obtain ⟨w1, hw1⟩ : ∃ w1, w1 = ((w.alloc (exprBox e)).alloc (kindsBox A n c)) := ⟨_, rfl⟩
  have HW := Lib.hid hw1
  have R0 : Hid (w1.heap[w.heap.size]? = some (exprBox e)) := by rw [hw1]; exact old_row _ (new_row _ _ rfl)
  have R1 : Hid (w1.heap[w.heap.size + 1]? = some (kindsBox A n c)) := by rw [hw1]; exact new_row _ _ (by simp only [World.size_alloc])
  have HB : Hid (Below w.heap.size w w1) := by rw [hw1]; exact below_new (below_new (Below.refl _ _) _) _
  have SZ : Hid (w1.heap.size = w.heap.size + 1 + 1) := by show _ = _; rw [hw1]; simp only [World.size_alloc]
  obtain ⟨p0_0, p0_1, p0_2, p0_3, p0_4, p0_5⟩ := expr_row R0.out
  clear hw1
  have hlk : ks.length = n := by simpa using hks.len
  obtain ⟨ae, hae⟩ : ∃ ae, Hid (amissE e = ae) := ⟨_, rfl⟩
  obtain ⟨co, hco⟩ : ∃ co, Hid (everyB (colOk n) 20 e = co) := ⟨_, rfl⟩
  obtain ⟨r, hr⟩ : ∃ r, Hid (typeE e ks = r) := ⟨_, rfl⟩
  rw [hr.out]
  have hr2 : Hid (r = if ae = 0 then (if co = true then kindN 20 ks e else (0, 4)) else (0, ae)) := by show _ = _; rw [← hr.out, typeE, hae.out, hlk, hco.out]
  have HR := Lib.hid h
  have HKS := Lib.hid hks
  have HLK := Lib.hid hlk
  have MF := run_capt
  clear hr hlk hks h
  go_enter Try.func17, Try.ntmps17
  go_upto_region 1 with fail
  rw [show ((w.alloc (exprBox e)).alloc (kindsBox A n c)) = w1 from HW.out.symm]
  clear HW
  go_wp2_with fail
  refine (words_any _).mono ?_
  rintro r1 w2 ⟨g1, g2, rfl, hl, b2⟩
  have HL0 := Lib.hid hl
  have HBw := Lib.hid (below_then HB.out b2)
  obtain ⟨w3, hw3⟩ : ∃ W, W = w2.alloc (langBox g1 g2) := ⟨_, rfl⟩
  have HW3 := Lib.hid hw3
  have b3 : Below w2.heap.size w2 w3 := by rw [hw3]; exact below_new (Below.refl _ _) _
  have b12 := below_then b2 b3
  have HB2 := Lib.hid (below_then HB.out b12)
  have RL : Hid (w3.heap[w2.heap.size]? = some (langBox g1 g2)) := by rw [hw3]; exact heap_alloc_new _ _
  have HLG : Hid (Lang w3 g1 g2) := Lib.hid (HL0.out.below b3)
  have RE := Lib.hid (row_below R0.out b12)
  have RR := Lib.hid (row_below R1.out b12)
  clear hl hw3 b2 b3 b12 HL0 HBw R0 R1 HB SZ p0_0 p0_1 p0_2 p0_3 p0_4 p0_5
  go_upto_region 2 with fail
  rw [show w2.alloc (langBox g1 g2) = w3 from HW3.out.symm]
  clear HW3
  generalize w2.heap.size = gl at RL ⊢
  obtain ⟨p0_0, p0_1, p0_2, p0_3, p0_4, p0_5⟩ := expr_row RE.out
  obtain ⟨l0, l1⟩ := lang_row RL.out
  have CA := Lib.hid (amiss_any g1 g2 e w3 HLG.out (HR.out.keep HB2.out))
  rw [hae.out] at CA
  go_wp2_with fail
  refine CA.out.mono ?_
  rintro r3 w4 ⟨rfl, b4⟩
  have HB3 := Lib.hid (below_then HB2.out b4)
  have RE3 := Lib.hid (row_below RE.out b4)
  have RR3 := Lib.hid (row_below RR.out b4)
  have RL3 := Lib.hid (row_below RL.out b4)
  have HLG3 := Lib.hid (HLG.out.below b4)
  clear b4 p0_0 p0_1 p0_2 p0_3 p0_4 p0_5 l0 l1 CA RE RR RL HLG HB2
  by_cases h0 : ae = 0
  · subst h0
    obtain ⟨hw, hf⟩ := amiss_zero hae.out
    have HWI := Lib.hid hw; have HFO := Lib.hid hf
    obtain ⟨p0_0, p0_1, p0_2, p0_3, p0_4, p0_5⟩ := expr_row RE3.out
    have C : Hid (Calls Try.prog 32 #[.agg #[.int .i64 e.k, .int .i64 e.n, .int .i64 e.v.k, .int .i64 e.v.n, .string e.v.s, .slice e.a e.m e.c], .func (.func 33) #[] #[.pointer (some ⟨w.heap.size + 1, 0, none⟩)]] w4 fun r w' => r = .returned (.bool co) ∧ Below w4.heap.size w4 w') := by
      rw [← hco.out]; exact everyC_any (w.heap.size + 1) A n c 20 e w4 RR3.out (HR.out.keep HB3.out) hw
    clear hw hf
    go_wp2_with fail
    refine C.out.mono ?_
    rintro r5 w5 ⟨rfl, b5⟩
    have HB5 := Lib.hid (below_then HB3.out b5)
    have RE5 := Lib.hid (row_below RE3.out b5)
    have RR5 := Lib.hid (row_below RR3.out b5)
    have RL5 := Lib.hid (row_below RL3.out b5)
    have HLG5 := Lib.hid (HLG3.out.below b5)
    clear b5 C p0_0 p0_1 p0_2 p0_3 p0_4 p0_5 RE3 RR3 RL3 HLG3
    cases co with
    | false =>
      go_wp2_with fail
      go_ret2
      exact ⟨by rw [hr2.out]; rfl, HB5.out⟩
    | true =>
      obtain ⟨p0_0, p0_1, p0_2, p0_3, p0_4, p0_5⟩ := expr_row RE5.out
      obtain ⟨l0, l1⟩ := lang_row RL5.out
      have k0 : w5.cell? ⟨w.heap.size + 1, 0, none⟩ = some (.slice A n c) := cell_row RR5.out 0
      have hr3 : Hid (r = kindN 20 ks e) := by show _ = _; rw [hr2.out]; rfl
      have C : Hid (Calls Try.prog 34 #[langV g1 g2, .agg #[.int .i64 e.k, .int .i64 e.n, .int .i64 e.v.k, .int .i64 e.v.n, .string e.v.s, .slice e.a e.m e.c], .slice A n c] w5 fun r' w' => r' = .returned (.tuple #[.int .i64 r.1, .int .i64 r.2]) ∧ Below w5.heap.size w5 w') := by
        rw [hr3.out]; exact kind_any g1 g2 A n c ks 20 e w5 HLG5.out (HKS.out.below HB5.out) (HR.out.keep HB5.out) HWI.out HFO.out (by rw [HLK.out]; exact hco.out)
      obtain ⟨rk, re⟩ := r
      dsimp only at C
      clear hr2 hr3
      go_wp2_with fail
      refine C.out.mono ?_
      rintro r6 w6 ⟨rfl, b6⟩
      have HB6 := Lib.hid (below_then HB5.out b6)
      clear b6 C
      go_wp2_with fail
      go_ret2
      exact ⟨rfl, HB6.out⟩
  · have q0 := beq_no h0
    have q1 : (ae != 0) = true := by simp [bne, q0]
    have hr3 : Hid (r = (0, ae)) := by show _ = _; rw [hr2.out, if_neg h0]
    clear h0
    go_wp2_with fail
    go_ret2
    exact ⟨by rw [hr3.out]; rfl, HB3.out⟩

set_option maxHeartbeats 12800000 in
theorem eval_any (e : E6) (A : Option Addr) (n c : Nat) (row : List V3) (w : World) (h : ReadsE w e) (hks : RdV w A n c row) (hm : ∀ v ∈ row, mayV v = true) : Calls Try.prog 11 #[e.agg, .slice A n c] w fun r w' => r = .returned (.tuple #[(evalE e row).1.agg, .int .i64 (evalE e row).2]) ∧ Below w.heap.size w w' := by
  obtain ⟨w1, hw1⟩ : ∃ w1, w1 = ((w.alloc (exprBox e)).alloc (valBox v0)) := ⟨_, rfl⟩
  have HW := Lib.hid hw1
  have R0 : Hid (w1.heap[w.heap.size]? = some (exprBox e)) := by rw [hw1]; exact old_row _ (new_row _ _ rfl)
  have R1 : Hid (w1.heap[w.heap.size + 1]? = some (valBox v0)) := by rw [hw1]; exact new_row _ _ (by simp only [World.size_alloc])
  have HB : Hid (Below w.heap.size w w1) := by rw [hw1]; exact below_new (below_new (Below.refl _ _) _) _
  have SZ : Hid (w1.heap.size = w.heap.size + 1 + 1) := by show _ = _; rw [hw1]; simp only [World.size_alloc]
  obtain ⟨p0_0, p0_1, p0_2, p0_3, p0_4, p0_5⟩ := expr_row R0.out
  obtain ⟨p1_0, p1_1, p1_2⟩ := valB_row R1.out
  clear hw1
  obtain ⟨ae, hae⟩ : ∃ ae, Hid (amissE e = ae) := ⟨_, rfl⟩
  obtain ⟨r, hr⟩ : ∃ r, Hid (evalE e row = r) := ⟨_, rfl⟩
  rw [hr.out]
  have hr2 : Hid (r = if ae = 0 then saysN 20 row e else (v0, ae)) := by show _ = _; rw [← hr.out, evalE, hae.out]
  have HR := Lib.hid h
  have HKS := Lib.hid hks
  have HM := Lib.hid hm
  clear hr hks h hm
  go_enter Try.func11, Try.ntmps11
  go_upto_region 1 with fail
  rw [show ((w.alloc (exprBox e)).alloc (valBox v0)) = w1 from HW.out.symm]
  clear HW
  go_wp2_with fail
  refine (words_any _).mono ?_
  rintro r1 w2 ⟨g1, g2, rfl, hl, b2⟩
  have HL0 := Lib.hid hl
  have HBw := Lib.hid (below_then HB.out b2)
  obtain ⟨w3, hw3⟩ : ∃ W, W = w2.alloc (langBox g1 g2) := ⟨_, rfl⟩
  have HW3 := Lib.hid hw3
  have b3 : Below w2.heap.size w2 w3 := by rw [hw3]; exact below_new (Below.refl _ _) _
  have b12 := below_then b2 b3
  have HB2 := Lib.hid (below_then HB.out b12)
  have RL : Hid (w3.heap[w2.heap.size]? = some (langBox g1 g2)) := by rw [hw3]; exact heap_alloc_new _ _
  have HLG : Hid (Lang w3 g1 g2) := Lib.hid (HL0.out.below b3)
  have RE := Lib.hid (row_below R0.out b12)
  have RR := Lib.hid (row_below R1.out b12)
  clear hl hw3 b2 b3 b12 HL0 HBw R0 R1 HB SZ p0_0 p0_1 p0_2 p0_3 p0_4 p0_5 p1_0 p1_1 p1_2
  go_upto_region 2 with fail
  rw [show w2.alloc (langBox g1 g2) = w3 from HW3.out.symm]
  clear HW3
  generalize w2.heap.size = gl at RL ⊢
  obtain ⟨p0_0, p0_1, p0_2, p0_3, p0_4, p0_5⟩ := expr_row RE.out
  obtain ⟨l0, l1⟩ := lang_row RL.out
  have CA := Lib.hid (amiss_any g1 g2 e w3 HLG.out (HR.out.keep HB2.out))
  rw [hae.out] at CA
  go_wp2_with fail
  refine CA.out.mono ?_
  rintro r3 w4 ⟨rfl, b4⟩
  have HB3 := Lib.hid (below_then HB2.out b4)
  have RE3 := Lib.hid (row_below RE.out b4)
  have RR3 := Lib.hid (row_below RR.out b4)
  have RL3 := Lib.hid (row_below RL.out b4)
  have HLG3 := Lib.hid (HLG.out.below b4)
  clear b4 p0_0 p0_1 p0_2 p0_3 p0_4 p0_5 l0 l1 CA RE RR RL HLG HB2
  by_cases h0 : ae = 0
  · subst h0
    obtain ⟨hw, hf⟩ := amiss_zero hae.out
    have hr3 : Hid (r = saysN 20 row e) := by show _ = _; rw [hr2.out]; rfl
    obtain ⟨p0_0, p0_1, p0_2, p0_3, p0_4, p0_5⟩ := expr_row RE3.out
    obtain ⟨l0, l1⟩ := lang_row RL3.out
    have C : Hid (Calls Try.prog 29 #[langV g1 g2, .agg #[.int .i64 e.k, .int .i64 e.n, .int .i64 e.v.k, .int .i64 e.v.n, .string e.v.s, .slice e.a e.m e.c], .slice A n c] w4 fun r' w' => r' = .returned (.tuple #[r.1.agg, .int .i64 r.2]) ∧ Below w4.heap.size w4 w') := by
      rw [hr3.out]; exact says_any g1 g2 A n c row HM.out 20 e w4 HLG3.out (HKS.out.below HB3.out) (HR.out.keep HB3.out) hw hf
    obtain ⟨rv, re⟩ := r
    dsimp only at C
    clear hr2 hr3 hw hf
    go_wp2_with fail
    refine C.out.mono ?_
    rintro r6 w6 ⟨rfl, b6⟩
    have HB6 := Lib.hid (below_then HB3.out b6)
    have R6 := Lib.hid (row_below RR3.out b6)
    obtain ⟨z0, z1, z2⟩ := valB_row R6.out
    have f6 := frozen_row R6.out
    clear b6 C p0_0 p0_1 p0_2 p0_3 p0_4 p0_5 l0 l1
    go_wp2_with fail
    refine bodyPost_ret (v := .tuple #[(rv).agg, .int .i64 re]) (results_row_tmp rfl _ _ (w.heap.size + 1) 23 _ (0, 0) _ rfl (set3 R6.out) Try.underlying23 rfl (by kernel_rfl) rfl) rfl ?_
    exact ⟨rfl, below_set3 HB6.out (by omega)⟩
  · have q0 := beq_no h0
    have q1 : (ae != 0) = true := by simp [bne, q0]
    have hr3 : Hid (r = (v0, ae)) := by show _ = _; rw [hr2.out, if_neg h0]
    clear h0
    go_wp2_with fail
    refine (nothing_any _).mono ?_
    rintro r6 w6 ⟨rfl, b6⟩
    have HB6 := Lib.hid (below_then HB3.out b6)
    have R6 := Lib.hid (row_below RR3.out b6)
    obtain ⟨z0, z1, z2⟩ := valB_row R6.out
    have f6 := frozen_row R6.out
    clear b6
    go_wp2_with fail
    refine bodyPost_ret (v := .tuple #[(v0).agg, .int .i64 ae]) (results_row_tmp rfl _ _ (w.heap.size + 1) 23 _ (0, 0) _ rfl (set3 R6.out) Try.underlying23 rfl (by kernel_rfl) rfl) rfl ?_
    exact ⟨by rw [hr3.out], below_set3 HB6.out (by omega)⟩

set_option maxHeartbeats 12800000 in
theorem holds_any (e : E6) (A : Option Addr) (n c : Nat) (row : List V3) (w : World) (h : ReadsE w e) (hks : RdV w A n c row) (hm : ∀ v ∈ row, mayV v = true) : Calls Try.prog 13 #[e.agg, .slice A n c] w fun r w' => r = .returned (.tuple #[.bool (holdsE (evalE e row)).1, .int .i64 (holdsE (evalE e row)).2]) ∧ Below w.heap.size w w' := by
  obtain ⟨w1, hw1⟩ : ∃ w1, w1 = (w.alloc (exprBox e)) := ⟨_, rfl⟩
  have HW := Lib.hid hw1
  have R0 : Hid (w1.heap[w.heap.size]? = some (exprBox e)) := by rw [hw1]; exact new_row _ _ rfl
  have HB : Hid (Below w.heap.size w w1) := by rw [hw1]; exact below_new (Below.refl _ _) _
  have SZ : Hid (w1.heap.size = w.heap.size + 1) := by show _ = _; rw [hw1]; simp only [World.size_alloc]
  obtain ⟨p0_0, p0_1, p0_2, p0_3, p0_4, p0_5⟩ := expr_row R0.out
  clear hw1
  obtain ⟨y, hy⟩ : ∃ y, Hid (evalE e row = y) := ⟨_, rfl⟩
  have C := Lib.hid (eval_any e A n c row w1 (h.keep HB.out) (hks.below HB.out) hm)
  rw [hy.out] at C ⊢
  obtain ⟨r, hr⟩ : ∃ r, Hid (holdsE y = r) := ⟨_, rfl⟩
  rw [hr.out]
  obtain ⟨yv, ye⟩ := y
  have hr2 : Hid (r = if ye = 0 then (if yv.k = 2 then (false, 6) else (!decide (yv.n = 0), 0)) else (false, ye)) := by show _ = _; rw [← hr.out, holdsE]
  dsimp only at C
  clear hr hks h hm hy
  go_enter Try.func13, Try.ntmps13
  go_upto_region 1 with fail
  rw [show (w.alloc (exprBox e)) = w1 from HW.out.symm]
  clear HW
  go_wp2_with fail
  refine C.out.mono ?_
  rintro r2 w2 ⟨rfl, b2⟩
  obtain ⟨w3, hw3⟩ : ∃ w3, w3 = w2.alloc (valBox yv) := ⟨_, rfl⟩
  have HW3 := Lib.hid hw3
  have b3 : Below w2.heap.size w2 w3 := by rw [hw3]; exact below_new (Below.refl _ _) _
  have HB3 := Lib.hid (below_then HB.out (below_then b2 b3))
  have RV : Hid (w3.heap[w2.heap.size]? = some (valBox yv)) := by rw [hw3]; exact heap_alloc_new _ _
  clear b2 b3 hw3 C p0_0 p0_1 p0_2 p0_3 p0_4 p0_5
  go_upto_region 2 with fail
  rw [show w2.alloc (valBox yv) = w3 from HW3.out.symm]
  clear HW3
  generalize w2.heap.size = gv at RV ⊢
  obtain ⟨z0, z1, z2⟩ := valB_row RV.out
  by_cases h0 : ye = 0
  · subst h0
    by_cases h1 : yv.k = 2
    · have hr3 : Hid (r = (false, 6)) := by show _ = _; rw [hr2.out, if_pos rfl, if_pos h1]
      have q0 := beq_yes h1
      clear h1
      go_wp2_with fail
      go_ret2
      exact ⟨by rw [hr3.out]; rfl, HB3.out⟩
    · have hr3 : Hid (r = (!decide (yv.n = 0), 0)) := by show _ = _; rw [hr2.out, if_pos rfl, if_neg h1]
      have q0 := beq_no h1
      clear h1
      by_cases h2 : yv.n = 0
      · have q1 : (yv.n != 0) = false := by simp [bne, h2]
        have hr4 : Hid (r = (false, 0)) := by show _ = _; rw [hr3.out, decide_eq_true h2]; rfl
        clear h2
        go_wp2_with fail
        go_ret2
        exact ⟨by rw [hr4.out]; rfl, HB3.out⟩
      · have q1 : (yv.n != 0) = true := by simp [bne, beq_no h2]
        have hr4 : Hid (r = (true, 0)) := by show _ = _; rw [hr3.out, decide_eq_false h2]; rfl
        clear h2
        go_wp2_with fail
        go_ret2
        exact ⟨by rw [hr4.out]; rfl, HB3.out⟩
  · have q0 := beq_no h0
    have hr3 : Hid (r = (false, ye)) := by show _ = _; rw [hr2.out, if_neg h0]
    clear h0
    go_wp2_with fail
    go_ret2
    exact ⟨by rw [hr3.out]; rfl, HB3.out⟩
end Go.Proofs.Ytkpkkkmokgmhfaa
