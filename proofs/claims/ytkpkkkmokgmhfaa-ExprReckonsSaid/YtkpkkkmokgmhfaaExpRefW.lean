/- Layer 12: Type, Eval, Holds: the document. -/
import Derived.Test.YtkpkkkmokgmhfaaExpEvalR
import Derived.Test.YtkpkkkmokgmhfaaExpTyped
import Derived.Test.YtkpkkkmokgmhfaaExpCode
namespace Go.Proofs.Ytkpkkkmokgmhfaa
set_option maxRecDepth 100000
open Go.RowKit Go.MapKept

set_option maxHeartbeats 12800000 in
theorem refType_any (e : E6) (A : Option Addr) (n c : Nat) (ks : List Int) (w : World) (h : ReadsE w e) (hks : Rd w A n c (vals .i64 ks)) : Calls Try.prog 18 #[e.agg, .slice A n c] w fun r w' => r = .returned (.tuple #[.int .i64 (typeE e ks).1, .int .i64 (typeE e ks).2]) ∧ Below w.heap.size w w' := by
  obtain ⟨w1, hw1⟩ : ∃ w1, w1 = (w.alloc (exprBox e)) := ⟨_, rfl⟩
  have HW := Lib.hid hw1
  have R0 : Hid (w1.heap[w.heap.size]? = some (exprBox e)) := by rw [hw1]; exact new_row _ _ rfl
  have HB : Hid (Below w.heap.size w w1) := by rw [hw1]; exact below_new (Below.refl _ _) _
  have SZ : Hid (w1.heap.size = w.heap.size + 1) := by show _ = _; rw [hw1]; simp only [World.size_alloc]
  obtain ⟨p0_0, p0_1, p0_2, p0_3, p0_4, p0_5⟩ := expr_row R0.out
  clear hw1
  have hlk : ks.length = n := by simpa using hks.len
  have hle := hks.le
  obtain ⟨ae, hae⟩ : ∃ ae, Hid (amissE e = ae) := ⟨_, rfl⟩
  obtain ⟨co, hco⟩ : ∃ co, Hid (everyB (colOk n) 20 e = co) := ⟨_, rfl⟩
  obtain ⟨r, hr⟩ : ∃ r, Hid (typeE e ks = r) := ⟨_, rfl⟩
  rw [hr.out]
  have hr2 : Hid (r = if ae = 0 then (if co = true then kindN 20 ks e else (0, 4)) else (0, ae)) := by show _ = _; rw [← hr.out, typeE, hae.out, hlk, hco.out]
  have HR := Lib.hid h
  have HKS := Lib.hid hks
  have HLK := Lib.hid hlk
  have C : Hid (Calls Try.prog 30 #[.agg #[.int .i64 e.k, .int .i64 e.n, .int .i64 e.v.k, .int .i64 e.v.n, .string e.v.s, .slice e.a e.m e.c]] w1 fun r w' => r = .returned (.int .i64 ae) ∧ Below w1.heap.size w1 w') := by rw [← hae.out]; exact refMay_any e w1 (h.keep HB.out)
  have HB1 := HB
  have RE1 := R0
  clear hr hlk hks h HB R0
  go_enter Try.func18, Try.ntmps18
  go_upto_region 1 with fail
  rw [show (w.alloc (exprBox e)) = w1 from HW.out.symm]
  clear HW
  go_wp2_with fail
  refine (C.out).mono ?_
  rintro r2 w2 ⟨rfl, b2⟩
  have HB2 := Lib.hid (below_then HB1.out b2)
  have RE2 := Lib.hid (row_below RE1.out b2)
  clear b2 C p0_0 p0_1 p0_2 p0_3 p0_4 p0_5 HB1 RE1
  obtain ⟨p0_0, p0_1, p0_2, p0_3, p0_4, p0_5⟩ := expr_row RE2.out
  by_cases h0 : ae = 0
  · subst h0
    obtain ⟨hw, hf⟩ := amiss_zero hae.out
    have HWI := Lib.hid hw; have HFO := Lib.hid hf
    have C : Hid (Calls Try.prog 35 #[.agg #[.int .i64 e.k, .int .i64 e.n, .int .i64 e.v.k, .int .i64 e.v.n, .string e.v.s, .slice e.a e.m e.c], .int .i64 (n : Int), .int .i64 20] w2 fun r w' => r = .returned (.bool co) ∧ Below w2.heap.size w2 w') := by rw [← hco.out]; exact refColumns_any n 20 e w2 (HR.out.keep HB2.out) hw (by omega)
    clear hw hf
    go_wp2_with fail
    refine (C.out).mono ?_
    rintro r3 w3 ⟨rfl, b3⟩
    have HB3 := Lib.hid (below_then HB2.out b3)
    have RE3 := Lib.hid (row_below RE2.out b3)
    clear b3 C p0_0 p0_1 p0_2 p0_3 p0_4 p0_5 HB2 RE2
    obtain ⟨p0_0, p0_1, p0_2, p0_3, p0_4, p0_5⟩ := expr_row RE3.out
    cases co with
    | false =>
      go_wp2_with fail
      go_ret2
      exact ⟨by rw [hr2.out]; rfl, HB3.out⟩
    | true =>
      have hr3 : Hid (r = kindN 20 ks e) := by show _ = _; rw [hr2.out]; rfl
      have C : Hid (Calls Try.prog 36 #[.agg #[.int .i64 e.k, .int .i64 e.n, .int .i64 e.v.k, .int .i64 e.v.n, .string e.v.s, .slice e.a e.m e.c], .slice A n c, .int .i64 20] w3 fun r' w' => r' = .returned (.tuple #[.int .i64 r.1, .int .i64 r.2]) ∧ Below w3.heap.size w3 w') := by
        rw [hr3.out]; exact refTyped_any A n c ks 20 e w3 (by omega) (HKS.out.below HB3.out) (HR.out.keep HB3.out) HWI.out HFO.out (by rw [HLK.out]; exact hco.out)
      obtain ⟨rk, re⟩ := r
      dsimp only at C
      clear hr2 hr3
      go_wp2_with fail
      refine (C.out).mono ?_
      rintro r4 w4 ⟨rfl, b4⟩
      have HB4 := Lib.hid (below_then HB3.out b4)
      have RE4 := Lib.hid (row_below RE3.out b4)
      clear b4 C
      go_wp2_with fail
      go_ret2
      exact ⟨rfl, HB4.out⟩
  · have q0 := beq_no h0
    have q1 : (ae != 0) = true := by simp [bne, q0]
    have hr3 : Hid (r = (0, ae)) := by show _ = _; rw [hr2.out, if_neg h0]
    clear h0
    go_wp2_with fail
    go_ret2
    exact ⟨by rw [hr3.out]; rfl, HB2.out⟩

set_option maxHeartbeats 12800000 in
theorem refEval_any (e : E6) (A : Option Addr) (n c : Nat) (row : List V3) (w : World) (h : ReadsE w e) (hks : RdV w A n c row) (hm : ∀ v ∈ row, mayV v = true) : Calls Try.prog 12 #[e.agg, .slice A n c] w fun r w' => r = .returned (.tuple #[(evalE e row).1.agg, .int .i64 (evalE e row).2]) ∧ Below w.heap.size w w' := by
  obtain ⟨w1, hw1⟩ : ∃ w1, w1 = ((w.alloc (exprBox e)).alloc (valBox v0)) := ⟨_, rfl⟩
  have HW := Lib.hid hw1
  have R0 : Hid (w1.heap[w.heap.size]? = some (exprBox e)) := by rw [hw1]; exact old_row _ (new_row _ _ rfl)
  have R1 : Hid (w1.heap[w.heap.size + 1]? = some (valBox v0)) := by rw [hw1]; exact new_row _ _ (by simp only [World.size_alloc])
  have HB : Hid (Below w.heap.size w w1) := by rw [hw1]; exact below_new (below_new (Below.refl _ _) _) _
  have SZ : Hid (w1.heap.size = w.heap.size + 1 + 1) := by show _ = _; rw [hw1]; simp only [World.size_alloc]
  obtain ⟨p0_0, p0_1, p0_2, p0_3, p0_4, p0_5⟩ := expr_row R0.out
  obtain ⟨p1_0, p1_1, p1_2⟩ := valB_row R1.out
  clear hw1
  obtain ⟨ae, hae⟩ : ∃ ae, Hid (amissE e = ae) := ⟨_, rfl⟩
  obtain ⟨r, hr⟩ : ∃ r, Hid (evalE e row = r) := ⟨_, rfl⟩
  rw [hr.out]
  have hr2 : Hid (r = if ae = 0 then saysN 20 row e else (v0, ae)) := by show _ = _; rw [← hr.out, evalE, hae.out]
  have HR := Lib.hid h
  have HKS := Lib.hid hks
  have HM := Lib.hid hm
  have C : Hid (Calls Try.prog 30 #[.agg #[.int .i64 e.k, .int .i64 e.n, .int .i64 e.v.k, .int .i64 e.v.n, .string e.v.s, .slice e.a e.m e.c]] w1 fun r w' => r = .returned (.int .i64 ae) ∧ Below w1.heap.size w1 w') := by rw [← hae.out]; exact refMay_any e w1 (h.keep HB.out)
  have HB1 := HB
  have RE1 := R0
  clear hr hks h hm HB R0
  go_enter Try.func12, Try.ntmps12
  go_upto_region 1 with fail
  rw [show ((w.alloc (exprBox e)).alloc (valBox v0)) = w1 from HW.out.symm]
  clear HW
  go_wp2_with fail
  refine (C.out).mono ?_
  rintro r2 w2 ⟨rfl, b2⟩
  have HB2 := Lib.hid (below_then HB1.out b2)
  have RE2 := Lib.hid (row_below RE1.out b2)
  have RZ2 := Lib.hid (row_below R1.out b2)
  clear b2 C p0_0 p0_1 p0_2 p0_3 p0_4 p0_5 p1_0 p1_1 p1_2 HB1 RE1 R1
  obtain ⟨p0_0, p0_1, p0_2, p0_3, p0_4, p0_5⟩ := expr_row RE2.out
  by_cases h0 : ae = 0
  · subst h0
    obtain ⟨hw, hf⟩ := amiss_zero hae.out
    have hr3 : Hid (r = saysN 20 row e) := by show _ = _; rw [hr2.out]; rfl
    have C : Hid (Calls Try.prog 31 #[.agg #[.int .i64 e.k, .int .i64 e.n, .int .i64 e.v.k, .int .i64 e.v.n, .string e.v.s, .slice e.a e.m e.c], .slice A n c, .int .i64 20] w2 fun r' w' => r' = .returned (.tuple #[r.1.agg, .int .i64 r.2]) ∧ Below w2.heap.size w2 w') := by
      rw [hr3.out]; exact refEval1_any A n c row HM.out 20 e w2 (by omega) (HKS.out.below HB2.out) (HR.out.keep HB2.out) hw hf
    obtain ⟨rv, re⟩ := r
    dsimp only at C
    clear hr2 hr3 hw hf
    go_wp2_with fail
    refine (C.out).mono ?_
    rintro r3 w3 ⟨rfl, b3⟩
    have HB3 := Lib.hid (below_then HB2.out b3)
    have RE3 := Lib.hid (row_below RE2.out b3)
    have R6 := Lib.hid (row_below RZ2.out b3)
    obtain ⟨z0, z1, z2⟩ := valB_row R6.out
    have f6 := frozen_row R6.out
    clear b3 C p0_0 p0_1 p0_2 p0_3 p0_4 p0_5
    go_wp2_with fail
    refine bodyPost_ret (v := .tuple #[(rv).agg, .int .i64 re]) (results_row_tmp rfl _ _ (w.heap.size + 1) 23 _ (0, 0) _ rfl (set3 R6.out) Try.underlying23 rfl (by kernel_rfl) rfl) rfl ?_
    exact ⟨rfl, below_set3 HB3.out (by omega)⟩
  · have q0 := beq_no h0
    have q1 : (ae != 0) = true := by simp [bne, q0]
    have hr3 : Hid (r = (v0, ae)) := by show _ = _; rw [hr2.out, if_neg h0]
    obtain ⟨z0, z1, z2⟩ := valB_row RZ2.out
    have f6 := frozen_row RZ2.out
    clear h0
    go_wp2_with fail
    refine bodyPost_ret (v := .tuple #[(v0).agg, .int .i64 ae]) (results_row_tmp rfl _ _ (w.heap.size + 1) 23 _ (0, 0) _ rfl (set3 RZ2.out) Try.underlying23 rfl (by kernel_rfl) rfl) rfl ?_
    exact ⟨by rw [hr3.out], below_set3 HB2.out (by omega)⟩

theorem eval_may (e : E6) (row : List V3) (hm : ∀ v ∈ row, mayV v = true) : mayV (evalE e row).1 = true := by
  rw [evalE]
  split
  · rename_i h; exact says_may 20 row e hm (amiss_zero h).2
  · exact may_v0
set_option maxHeartbeats 12800000 in
theorem refHolds_any (e : E6) (A : Option Addr) (n c : Nat) (row : List V3) (w : World) (h : ReadsE w e) (hks : RdV w A n c row) (hm : ∀ v ∈ row, mayV v = true) : Calls Try.prog 14 #[e.agg, .slice A n c] w fun r w' => r = .returned (.tuple #[.bool (holdsE (evalE e row)).1, .int .i64 (holdsE (evalE e row)).2]) ∧ Below w.heap.size w w' := by
  obtain ⟨w1, hw1⟩ : ∃ w1, w1 = (w.alloc (exprBox e)) := ⟨_, rfl⟩
  have HW := Lib.hid hw1
  have R0 : Hid (w1.heap[w.heap.size]? = some (exprBox e)) := by rw [hw1]; exact new_row _ _ rfl
  have HB : Hid (Below w.heap.size w w1) := by rw [hw1]; exact below_new (Below.refl _ _) _
  have SZ : Hid (w1.heap.size = w.heap.size + 1) := by show _ = _; rw [hw1]; simp only [World.size_alloc]
  obtain ⟨p0_0, p0_1, p0_2, p0_3, p0_4, p0_5⟩ := expr_row R0.out
  clear hw1
  obtain ⟨y, hy⟩ : ∃ y, Hid (evalE e row = y) := ⟨_, rfl⟩
  have C := Lib.hid (refEval_any e A n c row w1 (h.keep HB.out) (hks.below HB.out) hm)
  have hmy := eval_may e row hm
  rw [hy.out] at C hmy ⊢
  obtain ⟨r, hr⟩ : ∃ r, Hid (holdsE y = r) := ⟨_, rfl⟩
  rw [hr.out]
  obtain ⟨yv, ye⟩ := y
  have hr2 : Hid (r = if ye = 0 then (if yv.k = 2 then (false, 6) else (!decide (yv.n = 0), 0)) else (false, ye)) := by show _ = _; rw [← hr.out, holdsE]
  dsimp only at C hmy
  have HMY := Lib.hid hmy
  clear hr hks h hm hy hmy
  go_enter Try.func14, Try.ntmps14
  go_upto_region 1 with fail
  rw [show (w.alloc (exprBox e)) = w1 from HW.out.symm]
  clear HW
  go_wp2_with fail
  refine C.out.mono ?_
  rintro r2 w2 ⟨rfl, b2⟩
  obtain ⟨w3, hw3⟩ : ∃ w3, w3 = w2.alloc (valBox yv) := ⟨_, rfl⟩
  have HW3 := Lib.hid hw3
  have b3 : Below w2.heap.size w2 w3 := by rw [hw3]; exact below_new (Below.refl _ _) _
  have HB3 := Lib.hid (below_then HB.out (below_then b2 b3))
  have RV : Hid (w3.heap[w2.heap.size]? = some (valBox yv)) := by rw [hw3]; exact heap_alloc_new _ _
  clear b2 b3 hw3 C p0_0 p0_1 p0_2 p0_3 p0_4 p0_5
  go_upto_region 2 with fail
  rw [show w2.alloc (valBox yv) = w3 from HW3.out.symm]
  clear HW3
  generalize w2.heap.size = gv at RV ⊢
  obtain ⟨z0, z1, z2⟩ := valB_row RV.out
  by_cases h0 : ye = 0
  · subst h0
    by_cases h1 : yv.k = 2
    · have hr3 : Hid (r = (false, 6)) := by show _ = _; rw [hr2.out, if_pos rfl, if_pos h1]
      have q0 := beq_yes h1
      clear h1
      go_wp2_with fail
      go_ret2
      exact ⟨by rw [hr3.out]; rfl, HB3.out⟩
    · have hr3 : Hid (r = (!decide (yv.n = 0), 0)) := by show _ = _; rw [hr2.out, if_pos rfl, if_neg h1]
      have q0 := beq_no h1
      by_cases h3 : yv.k = 1
      · have q3 := beq_yes h3
        clear h1 h3
        by_cases h2 : yv.n = 0
        · have q1 : (yv.n != 0) = false := by simp [bne, h2]
          have hr4 : Hid (r = (false, 0)) := by show _ = _; rw [hr3.out, decide_eq_true h2]; rfl
          clear h2
          go_wp2_with fail
          go_ret2
          exact ⟨by rw [hr4.out]; rfl, HB3.out⟩
        · have q1 : (yv.n != 0) = true := by simp [bne, beq_no h2]
          have hr4 : Hid (r = (true, 0)) := by show _ = _; rw [hr3.out, decide_eq_false h2]; rfl
          clear h2
          go_wp2_with fail
          go_ret2
          exact ⟨by rw [hr4.out]; rfl, HB3.out⟩
      · have q3 := beq_no h3
        have hn0 : yv.n = 0 := by
          have := may_kind HMY.out
          rw [may_null HMY.out (by omega)]
        have hr4 : Hid (r = (false, 0)) := by show _ = _; rw [hr3.out, decide_eq_true hn0]; rfl
        clear h1 h3 hn0
        go_wp2_with fail
        go_ret2
        exact ⟨by rw [hr4.out]; rfl, HB3.out⟩
  · have q0 := beq_no h0
    have q1 : (ye != 0) = true := by simp [bne, q0]
    have hr3 : Hid (r = (false, ye)) := by show _ = _; rw [hr2.out, if_neg h0]
    clear h0
    go_wp2_with fail
    go_ret2
    exact ⟨by rw [hr3.out]; rfl, HB3.out⟩
end Go.Proofs.Ytkpkkkmokgmhfaa
