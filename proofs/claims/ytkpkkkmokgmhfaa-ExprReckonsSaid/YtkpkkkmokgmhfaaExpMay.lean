/- Layer 12: which values may be: the code and the document. -/
import Derived.Test.YtkpkkkmokgmhfaaExpSmall
namespace Go.Proofs.Ytkpkkkmokgmhfaa
set_option maxRecDepth 100000
open Go.RowKit Go.MapKept

theorem run_eqV (x y : V3) (W : World) : (Op.equalIn 10000 23 (.agg #[.int .i64 x.k, .int .i64 x.n, .string x.s]) (.agg #[.int .i64 y.k, .int .i64 y.n, .string y.s])).run Try.prog W = .ok (decide (x = y)) W := by
  rw [← sameV]; exact run_equalIn_val x.k x.n y.k y.n x.s y.s W
theorem eq_v0 {v : V3} (h : v.k = 0) : decide (v = v0) = (decide (v.n = 0) && decide (v.s.size = 0)) := by
  refine Bool.eq_iff_iff.2 ?_
  simp only [decide_eq_true_eq, Bool.and_eq_true]
  exact ⟨fun e => by rw [e]; exact ⟨rfl, rfl⟩, fun e => v3_ext h e.1 (size_zero e.2)⟩
theorem eq_num {v : V3} (h : v.k = 1) : decide (v = numV v.n) = decide (v.s.size = 0) := by
  refine Bool.eq_iff_iff.2 ?_
  simp only [decide_eq_true_eq]
  exact ⟨fun e => by rw [e]; rfl, fun e => v3_ext h rfl (size_zero e)⟩

set_option maxHeartbeats 3200000 in
theorem may_any (v : V3) (w : World) : Calls Try.prog 37 #[v.agg] w fun e w' => e = .returned (.bool (mayV v)) ∧ Below w.heap.size w w' := by
  obtain ⟨w1, hw1⟩ : ∃ w1, w1 = (w.alloc (valBox v)) := ⟨_, rfl⟩
  have HW := Lib.hid hw1
  have R0 : Hid (w1.heap[w.heap.size]? = some (valBox v)) := by rw [hw1]; exact new_row _ _ rfl
  have HB : Hid (Below w.heap.size w w1) := by rw [hw1]; exact below_new (Below.refl _ _) _
  have SZ : Hid (w1.heap.size = w.heap.size + 1) := by show _ = _; rw [hw1]; simp only [World.size_alloc]
  obtain ⟨p0_0, p0_1, p0_2⟩ := valB_row R0.out
  clear hw1
  have k0_0 : ∀ p : BelowOf w1, p.W.cell? ⟨w.heap.size, 0, none⟩ = some (.int .i64 v.k) := fun p => p.cell p0_0
  have k0_1 : ∀ p : BelowOf w1, p.W.cell? ⟨w.heap.size, 1, none⟩ = some (.int .i64 v.n) := fun p => p.cell p0_1
  have k0_2 : ∀ p : BelowOf w1, p.W.cell? ⟨w.heap.size, 2, none⟩ = some (.string v.s) := fun p => p.cell p0_2
  have kl0 : ∀ p : BelowOf w1, (loadVar 23 ⟨w.heap.size, 0, none⟩).run Try.prog p.W = .ok (.agg #[.int .i64 v.k, .int .i64 v.n, .string v.s]) p.W := fun p => run_loadVar_row p.W _ _ _ _ _ _ (row_below R0.out p.h) Try.underlying23 rfl (by kernel_rfl)
  obtain ⟨r, hr⟩ : ∃ r, Hid (mayV v = r) := ⟨_, rfl⟩
  rw [hr.out]
  by_cases h0 : v.k = 0
  · have hr2 : Hid (decide (v = v0) = r) := by show _ = _; rw [← hr.out, mayV, if_pos h0, eq_v0 h0]
    have EQ := fun W => run_eqV v v0 W
    rw [hr2.out] at EQ
    have e0 := beq_yes h0
    have C := Lib.hid nothing_any
    clear h0 hr
    go_enter Try.func37, Try.ntmps37
    go_upto_region 1 with fail
    rw [show (w.alloc (valBox v)) = w1 from HW.out.symm]
    clear HW
    go_wp2
    refine wp_region_quiet_below (by kernel_rfl) (by kernel_rfl) ?_
    repeat (with_reducible refine wpQuiet_step (fun K hK => ?_); go_simp; first | (with_reducible refine hK _ ?_; clear hK K) | (apply Exists.intro; with_reducible refine ⟨fun _ => ?_, hK _ ?_⟩; (exact Calls.quiet_below (C.out _)); clear hK K))
    with_reducible refine wpQuiet_nil ?_
    rintro wq ⟨⟨_, hq⟩, rfl⟩
    go_wp2
    go_ret
    exact ⟨rfl, below_then HB.out hq⟩
  by_cases h1 : v.k = 1
  · have e0 := beq_no h0
    have e1 := beq_yes h1
    obtain ⟨q, hq0⟩ : ∃ q, Hid (decide (v = numV v.n) = q) := ⟨_, rfl⟩
    obtain ⟨s, hs0⟩ : ∃ s, Hid (overB v.n = s) := ⟨_, rfl⟩
    have hr2 : Hid (r = (q && !s)) := by
      show _ = _
      rw [← hr.out, ← hq0.out, ← hs0.out, mayV, if_neg h0, if_pos h1, eq_num h1, overB]
      refine Bool.eq_iff_iff.2 ?_
      simp only [Bool.and_eq_true, decide_eq_true_eq, Bool.not_eq_true', Bool.or_eq_false_iff, decide_eq_false_iff_not]
      omega
    have EQ := fun W => run_eqV v (numV v.n) W
    rw [hq0.out] at EQ
    have C := Lib.hid (fun W => number_any v.n W)
    have D : Hid (∀ W, Calls Try.prog 65 #[.int .i64 v.n] W fun e w' => e = .returned (.bool s) ∧ Below W.heap.size W w') := fun W => by rw [← hs0.out]; exact over_any v.n W
    clear h0 h1 hr hq0 hs0
    cases q with
    | true =>
      go_enter Try.func37, Try.ntmps37
      go_upto_region 1 with fail
      rw [show (w.alloc (valBox v)) = w1 from HW.out.symm]
      clear HW
      go_wp2
      refine wp_region_quiet_below (by kernel_rfl) (by kernel_rfl) ?_
      repeat (with_reducible refine wpQuiet_step (fun K hK => ?_); go_simp; first | (with_reducible refine hK _ ?_; clear hK K) | (apply Exists.intro; with_reducible refine ⟨fun _ => ?_, hK _ ?_⟩; (first | (go_at_call 64; exact Calls.quiet_below (C.out _)) | (go_at_call 65; exact Calls.quiet_below (D.out _))); clear hK K))
      with_reducible refine wpQuiet_nil ?_
      rintro wq ⟨⟨_, hq⟩, rfl⟩
      go_wp2
      go_ret
      exact ⟨ret_bool (by rw [hr2.out]; simp), below_then HB.out hq⟩
    | false =>
      go_enter Try.func37, Try.ntmps37
      go_upto_region 1 with fail
      rw [show (w.alloc (valBox v)) = w1 from HW.out.symm]
      clear HW
      go_wp2
      refine wp_region_quiet_below (by kernel_rfl) (by kernel_rfl) ?_
      repeat (with_reducible refine wpQuiet_step (fun K hK => ?_); go_simp; first | (with_reducible refine hK _ ?_; clear hK K) | (apply Exists.intro; with_reducible refine ⟨fun _ => ?_, hK _ ?_⟩; (first | (go_at_call 64; exact Calls.quiet_below (C.out _)) | (go_at_call 65; exact Calls.quiet_below (D.out _))); clear hK K))
      with_reducible refine wpQuiet_nil ?_
      rintro wq ⟨⟨_, hq⟩, rfl⟩
      go_wp2
      go_ret
      exact ⟨ret_bool (by rw [hr2.out]; simp), below_then HB.out hq⟩
  by_cases h2 : v.k = 2
  · have e0 := beq_no h0
    have e1 := beq_no h1
    have e2 := beq_yes h2
    have hr2 : Hid (r = (decide (v.n = 0) && decide (v.s.size ≤ 200))) := by show _ = _; rw [← hr.out, mayV, if_neg h0, if_neg h1, if_pos h2]
    clear h0 h1 h2 hr k0_0 k0_1 k0_2 kl0
    rcases Decidable.em (v.n = 0) with h3 | h3
    · have e3 := beq_yes h3
      have hr3 : Hid (r = decide (v.s.size ≤ 200)) := by show _ = _; rw [hr2.out, decide_eq_true h3]; rfl
      clear h3
      by_cases h4 : v.s.size ≤ 200
      · have e4 : (v.s.size : Int) ≤ 200 := by omega
        go_enter Try.func37, Try.ntmps37
        go_upto_region 1 with fail
        rw [show (w.alloc (valBox v)) = w1 from HW.out.symm]
        clear HW
        go_wp2
        go_ret
        exact ⟨ret_bool (by rw [hr3.out]; simp [h4]), HB.out⟩
      · have e4 : ¬ (v.s.size : Int) ≤ 200 := by omega
        go_enter Try.func37, Try.ntmps37
        go_upto_region 1 with fail
        rw [show (w.alloc (valBox v)) = w1 from HW.out.symm]
        clear HW
        go_wp2
        go_ret
        exact ⟨ret_bool (by rw [hr3.out]; simp [h4]), HB.out⟩
    · have e3 := beq_no h3
      have hr3 : Hid (r = false) := by show _ = _; rw [hr2.out, decide_eq_false h3]; rfl
      clear h3
      go_enter Try.func37, Try.ntmps37
      go_upto_region 1 with fail
      rw [show (w.alloc (valBox v)) = w1 from HW.out.symm]
      clear HW
      go_wp2
      go_ret
      exact ⟨ret_bool hr3.out.symm, HB.out⟩
  have e0 := beq_no h0
  have e1 := beq_no h1
  have e2 := beq_no h2
  have hr2 : Hid (r = false) := by show _ = _; rw [← hr.out, mayV, if_neg h0, if_neg h1, if_neg h2]
  clear h0 h1 h2 hr k0_0 k0_1 k0_2 kl0
  go_enter Try.func37, Try.ntmps37
  go_upto_region 1 with fail
  rw [show (w.alloc (valBox v)) = w1 from HW.out.symm]
  clear HW
  go_wp2
  go_ret
  exact ⟨ret_bool hr2.out.symm, HB.out⟩

set_option maxHeartbeats 3200000 in
theorem refValue_any (v : V3) (w : World) : Calls Try.prog 10 #[v.agg] w fun e w' => e = .returned (.bool (mayV v)) ∧ Below w.heap.size w w' := by
  obtain ⟨w1, hw1⟩ : ∃ w1, w1 = (w.alloc (valBox v)) := ⟨_, rfl⟩
  have HW := Lib.hid hw1
  have R0 : Hid (w1.heap[w.heap.size]? = some (valBox v)) := by rw [hw1]; exact new_row _ _ rfl
  have HB : Hid (Below w.heap.size w w1) := by rw [hw1]; exact below_new (Below.refl _ _) _
  have SZ : Hid (w1.heap.size = w.heap.size + 1) := by show _ = _; rw [hw1]; simp only [World.size_alloc]
  obtain ⟨p0_0, p0_1, p0_2⟩ := valB_row R0.out
  clear hw1
  obtain ⟨r, hr⟩ : ∃ r, Hid (mayV v = r) := ⟨_, rfl⟩
  have IE : v.s.toList.isEmpty = (v.s.size == 0) := iem v.s
  rw [hr.out]
  rcases Decidable.em (v.k = 0) with h0 | h0
  · have e0 := beq_yes h0
    have hr2 : Hid (r = (decide (v.n = 0) && decide (v.s.size = 0))) := by show _ = _; rw [← hr.out, mayV, if_pos h0]
    clear h0 hr
    rcases Decidable.em (v.n = 0) with h1 | h1 <;> rcases Decidable.em (v.s.size = 0) with h2 | h2
    all_goals
      have e1 : (v.n == 0) = decide (v.n = 0) := by by_cases h : v.n = 0 <;> simp [h]
      have e2 : v.s.toList.isEmpty = decide (v.s.size = 0) := by rw [IE]; by_cases h : v.s.size = 0 <;> simp [h]
      first | rw [decide_eq_true h1] at e1 | rw [decide_eq_false h1] at e1
      first | rw [decide_eq_true h2] at e2 | rw [decide_eq_false h2] at e2
      have H1 := Lib.hid h1; have H2 := Lib.hid h2
      clear h1 h2 IE
      go_enter Try.func10, Try.ntmps10
      go_upto_region 1 with fail
      rw [show (w.alloc (valBox v)) = w1 from HW.out.symm]
      clear HW
      go_wp2
      go_ret
      exact ⟨ret_bool (by rw [hr2.out]; simp [H1.out, H2.out]), HB.out⟩
  rcases Decidable.em (v.k = 1) with h1 | h1
  · have e0 := beq_no h0
    have e1 := beq_yes h1
    have hr2 : Hid (r = (decide (v.s.size = 0) && (decide (-1099511627776 ≤ v.n) && decide (v.n ≤ 1099511627776)))) := by show _ = _; rw [← hr.out, mayV, if_neg h0, if_pos h1]
    clear h0 h1 hr
    have e2 : v.s.toList.isEmpty = decide (v.s.size = 0) := by rw [IE]; by_cases h : v.s.size = 0 <;> simp [h]
    rcases Decidable.em (v.s.size = 0) with h2 | h2
    · rw [decide_eq_true h2] at e2
      have H2 := Lib.hid h2
      clear h2 IE
      rcases Decidable.em (v.n < -1099511627776) with h3 | h3
      · have g1 : decide (-1099511627776 ≤ v.n) = false := decide_eq_false (by omega)
        have g2 : ¬ (-1099511627776 ≤ v.n) := by omega
        go_enter Try.func10, Try.ntmps10
        go_upto_region 1 with fail
        rw [show (w.alloc (valBox v)) = w1 from HW.out.symm]
        clear HW
        go_wp2
        go_ret
        exact ⟨ret_bool (by rw [hr2.out, g1]; simp), HB.out⟩
      · have g2 : -1099511627776 ≤ v.n := by omega
        rcases Decidable.em (v.n ≤ 1099511627776) with h4 | h4
        · go_enter Try.func10, Try.ntmps10
          go_upto_region 1 with fail
          rw [show (w.alloc (valBox v)) = w1 from HW.out.symm]
          clear HW
          go_wp2
          go_ret
          exact ⟨ret_bool (by rw [hr2.out]; simp [H2.out, g2, h4]), HB.out⟩
        · go_enter Try.func10, Try.ntmps10
          go_upto_region 1 with fail
          rw [show (w.alloc (valBox v)) = w1 from HW.out.symm]
          clear HW
          go_wp2
          go_ret
          exact ⟨ret_bool (by rw [hr2.out]; simp [H2.out, g2, h4]), HB.out⟩
    · rw [decide_eq_false h2] at e2
      have H2 := Lib.hid h2
      clear h2 IE
      go_enter Try.func10, Try.ntmps10
      go_upto_region 1 with fail
      rw [show (w.alloc (valBox v)) = w1 from HW.out.symm]
      clear HW
      go_wp2
      go_ret
      exact ⟨ret_bool (by rw [hr2.out]; simp [H2.out]), HB.out⟩
  rcases Decidable.em (v.k = 2) with h2 | h2
  · have e0 := beq_no h0
    have e1 := beq_no h1
    have e2 := beq_yes h2
    have hr2 : Hid (r = (decide (v.n = 0) && decide (v.s.size ≤ 200))) := by show _ = _; rw [← hr.out, mayV, if_neg h0, if_neg h1, if_pos h2]
    clear h0 h1 h2 hr
    rcases Decidable.em (v.n = 0) with h3 | h3
    · have e3 := beq_yes h3
      have hr3 : Hid (r = decide (v.s.size ≤ 200)) := by show _ = _; rw [hr2.out, decide_eq_true h3]; rfl
      clear h3
      by_cases h4 : v.s.size ≤ 200
      · have e4 : (v.s.size : Int) ≤ 200 := by omega
        go_enter Try.func10, Try.ntmps10
        go_upto_region 1 with fail
        rw [show (w.alloc (valBox v)) = w1 from HW.out.symm]
        clear HW
        go_wp2
        go_ret
        exact ⟨ret_bool (by rw [hr3.out]; simp [h4]), HB.out⟩
      · have e4 : ¬ (v.s.size : Int) ≤ 200 := by omega
        go_enter Try.func10, Try.ntmps10
        go_upto_region 1 with fail
        rw [show (w.alloc (valBox v)) = w1 from HW.out.symm]
        clear HW
        go_wp2
        go_ret
        exact ⟨ret_bool (by rw [hr3.out]; simp [h4]), HB.out⟩
    · have e3 := beq_no h3
      have hr3 : Hid (r = false) := by show _ = _; rw [hr2.out, decide_eq_false h3]; rfl
      clear h3
      go_enter Try.func10, Try.ntmps10
      go_upto_region 1 with fail
      rw [show (w.alloc (valBox v)) = w1 from HW.out.symm]
      clear HW
      go_wp2
      go_ret
      exact ⟨ret_bool hr3.out.symm, HB.out⟩
  have e0 := beq_no h0
  have e1 := beq_no h1
  have e2 := beq_no h2
  have hr2 : Hid (r = false) := by show _ = _; rw [← hr.out, mayV, if_neg h0, if_neg h1, if_neg h2]
  clear h0 h1 h2 hr
  go_enter Try.func10, Try.ntmps10
  go_upto_region 1 with fail
  rw [show (w.alloc (valBox v)) = w1 from HW.out.symm]
  clear HW
  go_wp2
  go_ret
  exact ⟨ret_bool hr2.out.symm, HB.out⟩
end Go.Proofs.Ytkpkkkmokgmhfaa
