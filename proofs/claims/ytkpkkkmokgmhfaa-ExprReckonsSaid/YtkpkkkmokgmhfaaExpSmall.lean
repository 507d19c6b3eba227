/- Layer 12: small functions of numbers and kinds. -/
import Derived.Test.YtkpkkkmokgmhfaaExpOne
namespace Go.Proofs.Ytkpkkkmokgmhfaa
set_option maxRecDepth 100000
open Go.RowKit Go.MapKept

def overB (n : Int) : Bool := decide (n < -1099511627776) || decide (1099511627776 < n)
set_option maxHeartbeats 1600000 in
theorem over_any (n : Int) (w : World) : Calls Try.prog 65 #[.int .i64 n] w fun e w' => e = .returned (.bool (overB n)) ∧ Below w.heap.size w w' := by
  have HB := Lib.hid (Below.refl w.heap.size w)
  by_cases h1 : n < -1099511627776 <;> by_cases h2 : 1099511627776 < n
  all_goals
    have hr : Hid (overB n = (decide (n < -1099511627776) || decide (1099511627776 < n))) := Eq.refl _
    go_enter Try.func65, Try.ntmps65
    go_wp2
    go_ret
    refine ⟨ret_bool ?_, HB.out⟩
    rw [hr.out]
    first | simp [h1, h2] | simp [h1] | (exfalso; omega)

def absZ (n : Int) : Int := max n (-n)
set_option maxHeartbeats 1600000 in
theorem size_any (n : Int) (w : World) (h : -4611686018427387904 ≤ n ∧ n ≤ 4611686018427387904) : Calls Try.prog 67 #[.int .i64 n] w fun e w' => e = .returned (.int .i64 (absZ n)) ∧ Below w.heap.size w w' := by
  have HB := Lib.hid (Below.refl w.heap.size w)
  have q1 : IntKind.i64.wrap (-n) = -n := wrap_is (by omega)
  have HN : Hid (absZ n = max n (-n)) := Eq.refl _
  by_cases h0 : n < -n
  · have HN2 : Hid (absZ n = -n) := by show _ = _; rw [HN.out]; omega
    rw [HN2.out]
    clear h
    go_enter Try.func67, Try.ntmps67
    go_wp2
    all_goals
      go_ret
      exact ⟨ret_int (by omega), HB.out⟩
  · have HN2 : Hid (absZ n = n) := by show _ = _; rw [HN.out]; omega
    rw [HN2.out]
    clear h
    go_enter Try.func67, Try.ntmps67
    go_wp2
    all_goals
      go_ret
      exact ⟨ret_int (by omega), HB.out⟩

set_option maxHeartbeats 1600000 in
theorem truth_any (t : Bool) (w : World) : Calls Try.prog 69 #[.bool t] w fun e w' => e = .returned (truthV t).agg ∧ Below w.heap.size w w' := by
  obtain ⟨w1, hw1⟩ : ∃ w1, w1 = (w.alloc (valBox v0)) := ⟨_, rfl⟩
  have HW := Lib.hid hw1
  have R0 : Hid (w1.heap[w.heap.size]? = some (valBox v0)) := by rw [hw1]; exact new_row _ _ rfl
  have HB : Hid (Below w.heap.size w w1) := by rw [hw1]; exact below_new (Below.refl _ _) _
  have SZ : Hid (w1.heap.size = w.heap.size + 1) := by show _ = _; rw [hw1]; simp only [World.size_alloc]
  obtain ⟨p0_0, p0_1, p0_2⟩ := valB_row R0.out
  clear hw1
  have f0 := frozen_row R0.out
  cases t with
  | true =>
    go_enter Try.func69, Try.ntmps69
    go_upto_region 1 with fail
    rw [show (w.alloc (valBox v0)) = w1 from HW.out.symm]
    clear HW
    clear p0_0 p0_1 p0_2 f0
    go_wp2_with fail
    refine (number_any 1 _).mono ?_
    rintro e w2 ⟨rfl, b2⟩
    have R2 := Lib.hid (row_below R0.out b2)
    have HB2 := Lib.hid (below_then HB.out b2)
    obtain ⟨p0_0, p0_1, p0_2⟩ := valB_row R2.out
    have f0 := frozen_row R2.out
    clear b2
    go_wp2
    refine bodyPost_ret (v := (truthV true).agg) (results_cell_row rfl _ _ (w.heap.size) 23 _ (0, 0) _ rfl (set3 R2.out) Try.underlying23 rfl (by kernel_rfl)) rfl ?_
    exact ⟨rfl, below_set3 HB2.out (Nat.le_refl _)⟩
  | false =>
    go_enter Try.func69, Try.ntmps69
    go_upto_region 1 with fail
    rw [show (w.alloc (valBox v0)) = w1 from HW.out.symm]
    clear HW
    clear p0_0 p0_1 p0_2 f0
    go_wp2_with fail
    refine (number_any 0 _).mono ?_
    rintro e w2 ⟨rfl, b2⟩
    have R2 := Lib.hid (row_below R0.out b2)
    have HB2 := Lib.hid (below_then HB.out b2)
    obtain ⟨p0_0, p0_1, p0_2⟩ := valB_row R2.out
    have f0 := frozen_row R2.out
    clear b2
    go_wp2
    refine bodyPost_ret (v := (truthV false).agg) (results_cell_row rfl _ _ (w.heap.size) 23 _ (0, 0) _ rfl (set3 R2.out) Try.underlying23 rfl (by kernel_rfl)) rfl ?_
    exact ⟨rfl, below_set3 HB2.out (Nat.le_refl _)⟩

set_option maxHeartbeats 1600000 in
theorem refTruth_any (t : Bool) (w : World) : Calls Try.prog 70 #[.bool t] w fun e w' => e = .returned (truthV t).agg ∧ Below w.heap.size w w' := by
  obtain ⟨w1, hw1⟩ : ∃ w1, w1 = (w.alloc (valBox v0)) := ⟨_, rfl⟩
  have HW := Lib.hid hw1
  have R0 : Hid (w1.heap[w.heap.size]? = some (valBox v0)) := by rw [hw1]; exact new_row _ _ rfl
  have HB : Hid (Below w.heap.size w w1) := by rw [hw1]; exact below_new (Below.refl _ _) _
  have SZ : Hid (w1.heap.size = w.heap.size + 1) := by show _ = _; rw [hw1]; simp only [World.size_alloc]
  obtain ⟨p0_0, p0_1, p0_2⟩ := valB_row R0.out
  clear hw1
  have f0 := frozen_row R0.out
  cases t with
  | true =>
    go_enter Try.func70, Try.ntmps70
    go_upto_region 1 with fail
    rw [show (w.alloc (valBox v0)) = w1 from HW.out.symm]
    clear HW
    go_wp2
    refine bodyPost_ret (v := (truthV true).agg) (results_cell_row rfl _ _ (w.heap.size) 23 _ (0, 0) _ rfl (set3 R0.out) Try.underlying23 rfl (by kernel_rfl)) rfl ?_
    exact ⟨rfl, below_set3 HB.out (Nat.le_refl _)⟩
  | false =>
    go_enter Try.func70, Try.ntmps70
    go_upto_region 1 with fail
    rw [show (w.alloc (valBox v0)) = w1 from HW.out.symm]
    clear HW
    go_wp2
    refine bodyPost_ret (v := (truthV false).agg) (results_cell_row rfl _ _ (w.heap.size) 23 _ (0, 0) _ rfl (set3 R0.out) Try.underlying23 rfl (by kernel_rfl)) rfl ?_
    exact ⟨rfl, below_set3 HB.out (Nat.le_refl _)⟩

def togB (a b : Int) : Bool := decide (a = b) || decide (a = 0) || decide (b = 0)
set_option maxHeartbeats 1600000 in
theorem together_any (a b : Int) (w : World) : Calls Try.prog 49 #[.int .i64 a, .int .i64 b] w fun e w' => e = .returned (.bool (togB a b)) ∧ Below w.heap.size w w' := by
  have HB := Lib.hid (Below.refl w.heap.size w)
  obtain ⟨r, hr⟩ : ∃ r, Hid (togB a b = r) := ⟨_, rfl⟩
  rw [hr.out]
  by_cases h1 : a = b
  · have hr2 : Hid (r = true) := by show _ = _; rw [← hr.out, togB, decide_eq_true h1]; rfl
    subst h1
    rw [hr2.out]
    go_enter Try.func49, Try.ntmps49
    go_wp2
    go_ret
    exact ⟨rfl, HB.out⟩
  · have e1 := beq_no h1
    by_cases h2 : a = 0
    · have hr2 : Hid (r = true) := by show _ = _; rw [← hr.out, togB, decide_eq_true h2]; simp
      subst h2
      rw [hr2.out]
      clear h1
      go_enter Try.func49, Try.ntmps49
      go_wp2
      go_ret
      exact ⟨rfl, HB.out⟩
    · have e2 := beq_no h2
      by_cases h3 : b = 0
      · have hr2 : Hid (r = true) := by show _ = _; rw [← hr.out, togB, decide_eq_true h3]; simp
        subst h3
        rw [hr2.out]
        clear h1 h2
        go_enter Try.func49, Try.ntmps49
        go_wp2
        go_ret
        exact ⟨rfl, HB.out⟩
      · have e3 := beq_no h3
        have hr2 : Hid (r = false) := by show _ = _; rw [← hr.out, togB, decide_eq_false h1, decide_eq_false h2, decide_eq_false h3]; rfl
        rw [hr2.out]
        clear h1 h2 h3
        go_enter Try.func49, Try.ntmps49
        go_wp2
        go_ret
        exact ⟨rfl, HB.out⟩

set_option maxHeartbeats 1600000 in
theorem numbers_any (a b : Int) (w : World) : Calls Try.prog 44 #[.int .i64 a, .int .i64 b] w fun e w' => e = .returned (.bool (togB a 1 && togB b 1)) ∧ Below w.heap.size w w' := by
  obtain ⟨r, hr⟩ : ∃ r, Hid (togB a 1 = r) := ⟨_, rfl⟩
  obtain ⟨s, hs⟩ : ∃ s, Hid (togB b 1 = s) := ⟨_, rfl⟩
  have C1 : Hid (∀ W, Calls Try.prog 49 #[.int .i64 a, .int .i64 1] W fun e w' => e = .returned (.bool r) ∧ Below W.heap.size W w') := fun W => by rw [← hr.out]; exact together_any a 1 W
  have C2 : Hid (∀ W, Calls Try.prog 49 #[.int .i64 b, .int .i64 1] W fun e w' => e = .returned (.bool s) ∧ Below W.heap.size W w') := fun W => by rw [← hs.out]; exact together_any b 1 W
  rw [hr.out, hs.out]
  go_enter Try.func44, Try.ntmps44
  go_wp2_with fail
  refine (C1.out _).mono ?_
  rintro e w1 ⟨rfl, b1⟩
  have HB1 := Lib.hid b1
  clear b1
  cases r with
  | false =>
    go_wp2_with fail
    go_ret
    exact ⟨rfl, HB1.out⟩
  | true =>
    go_wp2_with fail
    refine (C2.out _).mono ?_
    rintro e w2 ⟨rfl, b2⟩
    have HB2 := Lib.hid (below_then HB1.out b2)
    clear b2
    cases s with
    | false =>
      go_wp2_with fail
      go_ret
      exact ⟨rfl, HB2.out⟩
    | true =>
      go_wp2_with fail
      go_ret
      exact ⟨rfl, HB2.out⟩

set_option maxHeartbeats 1600000 in
theorem whatever_any (a b : Int) (w : World) : Calls Try.prog 56 #[.int .i64 a, .int .i64 b] w fun e w' => e = .returned (.bool true) ∧ Below w.heap.size w w' := by
  have HB := Lib.hid (Below.refl w.heap.size w)
  go_enter Try.func56, Try.ntmps56
  go_wp2
  go_ret
  exact ⟨rfl, HB.out⟩

theorem tog_one (a : Int) : togB a 1 = (decide (a = 0) || decide (a = 1)) := by
  rw [togB]; refine Bool.eq_iff_iff.2 ?_; simp only [Bool.or_eq_true, decide_eq_true_eq]; omega
theorem ask_numbers {k : Int} (hk : k = 2 ∨ k = 3 ∨ k = 4 ∨ k = 7 ∨ k = 8 ∨ k = 9) : TellsAsk 44 k := fun a b W => by
  have := numbers_any a b W
  rw [tog_one, tog_one] at this
  rwa [gets3, if_pos hk]
theorem ask_together {k : Int} (hk : k = 5 ∨ k = 6) : TellsAsk 49 k := fun a b W => by
  have := together_any a b W
  rw [togB] at this
  rwa [gets3, if_neg (by omega), if_pos hk]
theorem ask_whatever : TellsAsk 56 10 := fun a b W => whatever_any a b W

set_option maxHeartbeats 12800000 in
theorem gets_any (k a b : Int) (w : World) : Calls Try.prog 63 #[.int .i64 k, .int .i64 a, .int .i64 b] w fun e w' => e = .returned (.bool (gets3 k a b)) ∧ Below w.heap.size w w' := by
  have HB := Lib.hid (Below.refl w.heap.size w)
  obtain ⟨r, hr⟩ : ∃ r, Hid (gets3 k a b = r) := ⟨_, rfl⟩
  rw [hr.out]
  by_cases hk : k = 2 ∨ k = 3 ∨ k = 4 ∨ k = 7 ∨ k = 8 ∨ k = 9
  · have hr2 : Hid (r = ((decide (a = 0) || decide (a = 1)) && (decide (b = 0) || decide (b = 1)))) := by show _ = _; rw [← hr.out, gets3, if_pos hk]
    rcases hk with rfl | rfl | rfl | rfl | rfl | rfl
    all_goals
      clear hr
      rcases Decidable.em (a = 0) with rfl | h1
      · rcases Decidable.em (b = 0) with rfl | h2
        · go_enter Try.func63, Try.ntmps63
          go_wp2
          go_ret
          exact ⟨ret_bool (by rw [hr2.out]; simp), HB.out⟩
        · rcases Decidable.em (b = 1) with rfl | h3
          · go_enter Try.func63, Try.ntmps63
            go_wp2
            go_ret
            exact ⟨ret_bool (by rw [hr2.out]; simp), HB.out⟩
          · have e2 := beq_no h2; have e3 := beq_no h3
            go_enter Try.func63, Try.ntmps63
            go_wp2
            go_ret
            exact ⟨ret_bool (by rw [hr2.out]; simp [h2, h3]), HB.out⟩
      rcases Decidable.em (a = 1) with rfl | h1'
      · rcases Decidable.em (b = 0) with rfl | h2
        · go_enter Try.func63, Try.ntmps63
          go_wp2
          go_ret
          exact ⟨ret_bool (by rw [hr2.out]; simp), HB.out⟩
        · rcases Decidable.em (b = 1) with rfl | h3
          · go_enter Try.func63, Try.ntmps63
            go_wp2
            go_ret
            exact ⟨ret_bool (by rw [hr2.out]; simp), HB.out⟩
          · have e2 := beq_no h2; have e3 := beq_no h3
            go_enter Try.func63, Try.ntmps63
            go_wp2
            go_ret
            exact ⟨ret_bool (by rw [hr2.out]; simp [h2, h3]), HB.out⟩
      have e1 := beq_no h1; have e1' := beq_no h1'
      go_enter Try.func63, Try.ntmps63
      go_wp2
      go_ret
      exact ⟨ret_bool (by rw [hr2.out]; simp [h1, h1']), HB.out⟩
  · by_cases hk2 : k = 5 ∨ k = 6
    · have hr2 : Hid (r = (decide (a = b) || decide (a = 0) || decide (b = 0))) := by show _ = _; rw [← hr.out, gets3, if_neg hk, if_pos hk2]
      clear hk
      rcases hk2 with rfl | rfl
      all_goals
        clear hr
        rcases Decidable.em (a = b) with rfl | h1
        · go_enter Try.func63, Try.ntmps63
          go_wp2
          go_ret
          exact ⟨ret_bool (by rw [hr2.out]; simp), HB.out⟩
        have e1 := beq_no h1
        have H1 := Lib.hid h1
        clear h1
        rcases Decidable.em (a = 0) with rfl | h2
        · go_enter Try.func63, Try.ntmps63
          go_wp2
          go_ret
          exact ⟨ret_bool (by rw [hr2.out]; simp), HB.out⟩
        have e2 := beq_no h2
        rcases Decidable.em (b = 0) with rfl | h3
        · go_enter Try.func63, Try.ntmps63
          go_wp2
          go_ret
          exact ⟨ret_bool (by rw [hr2.out]; simp), HB.out⟩
        have e3 := beq_no h3
        go_enter Try.func63, Try.ntmps63
        go_wp2
        go_ret
        exact ⟨ret_bool (by rw [hr2.out]; simp [H1.out, h2, h3]), HB.out⟩
    · have hr2 : Hid (r = true) := by show _ = _; rw [← hr.out, gets3, if_neg hk, if_neg hk2]
      have e2 := beq_no (show ¬ k = 2 by omega); have e3 := beq_no (show ¬ k = 3 by omega); have e4 := beq_no (show ¬ k = 4 by omega); have e5 := beq_no (show ¬ k = 5 by omega); have e6 := beq_no (show ¬ k = 6 by omega)
      have e7 := beq_no (show ¬ k = 7 by omega); have e8 := beq_no (show ¬ k = 8 by omega); have e9 := beq_no (show ¬ k = 9 by omega)
      clear hk hk2 hr
      go_enter Try.func63, Try.ntmps63
      go_wp2
      go_ret
      exact ⟨ret_bool hr2.out.symm, HB.out⟩
end Go.Proofs.Ytkpkkkmokgmhfaa
