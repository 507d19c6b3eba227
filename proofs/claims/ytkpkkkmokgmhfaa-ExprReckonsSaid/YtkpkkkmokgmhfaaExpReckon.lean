/- Layer 12: sums, differences, products: the document. -/
import Derived.Test.YtkpkkkmokgmhfaaExpRk
namespace Go.Proofs.Ytkpkkkmokgmhfaa
set_option maxRecDepth 100000
open Go.RowKit Go.MapKept

def rkV (z : Int) : V3 × Int := if z < -1099511627776 ∨ 1099511627776 < z then (v0, 20) else (numV z, 0)
theorem rk_reck {x y : V3} (z : Int) (h : nullV x y = false) : reckV x y z = rkV z := by rw [reckV, h]; rfl
theorem rk_prod (a b : Int) : rkV (prodZ a b) = rkV (a * b) := by
  have := prod_reck ⟨1, 0, ⟨#[]⟩⟩ ⟨1, 0, ⟨#[]⟩⟩ a b
  rwa [rk_reck _ rfl, rk_reck _ rfl] at this

set_option maxHeartbeats 6400000 in
theorem refReckon2_any (a b : Int) (w : World) (ha : -1099511627776 ≤ a ∧ a ≤ 1099511627776) (hb : -1099511627776 ≤ b ∧ b ≤ 1099511627776) : Calls Try.prog 71 #[.int .i64 2, .int .i64 a, .int .i64 b] w fun r w' => r = .returned (.tuple #[(rkV (a + b)).1.agg, .int .i64 (rkV (a + b)).2]) ∧ Below w.heap.size w w' := by
  obtain ⟨w1, hw1⟩ : ∃ w1, w1 = (w.alloc (valBox v0)) := ⟨_, rfl⟩
  have HW := Lib.hid hw1
  have R0 : Hid (w1.heap[w.heap.size]? = some (valBox v0)) := by rw [hw1]; exact new_row _ _ rfl
  have HB : Hid (Below w.heap.size w w1) := by rw [hw1]; exact below_new (Below.refl _ _) _
  have SZ : Hid (w1.heap.size = w.heap.size + 1) := by show _ = _; rw [hw1]; simp only [World.size_alloc]
  obtain ⟨p0_0, p0_1, p0_2⟩ := valB_row R0.out
  clear hw1
  have f0 := frozen_row R0.out
  obtain ⟨z, hz⟩ : ∃ z, a + b = z := ⟨_, rfl⟩
  have q1 : IntKind.i64.wrap (a + b) = z := by rw [hz]; exact wrap_is (by omega)
  rw [hz]
  clear ha hb hz
  by_cases h1 : 1099511627776 < z
  · have hr : Hid (rkV z = (v0, 20)) := by show _ = _; rw [rkV, if_pos (Or.inr h1)]
    go_enter Try.func71, Try.ntmps71
    go_upto_region 1 with fail
    rw [show (w.alloc (valBox v0)) = w1 from HW.out.symm]
    clear HW
    go_wp2_with fail
    refine bodyPost_ret (v := .tuple #[(v0).agg, .int .i64 20]) (results_row_tmp rfl _ _ (w.heap.size) 23 _ (0, 0) _ rfl (set3 R0.out) Try.underlying23 rfl (by kernel_rfl) rfl) rfl ?_
    exact ⟨by rw [hr.out], below_set3 HB.out (Nat.le_refl _)⟩
  by_cases h2 : z < -1099511627776
  · have hr : Hid (rkV z = (v0, 20)) := by show _ = _; rw [rkV, if_pos (Or.inl h2)]
    go_enter Try.func71, Try.ntmps71
    go_upto_region 1 with fail
    rw [show (w.alloc (valBox v0)) = w1 from HW.out.symm]
    clear HW
    go_wp2_with fail
    refine bodyPost_ret (v := .tuple #[(v0).agg, .int .i64 20]) (results_row_tmp rfl _ _ (w.heap.size) 23 _ (0, 0) _ rfl (set3 R0.out) Try.underlying23 rfl (by kernel_rfl) rfl) rfl ?_
    exact ⟨by rw [hr.out], below_set3 HB.out (Nat.le_refl _)⟩
  have hr : Hid (rkV z = (numV z, 0)) := by show _ = _; rw [rkV, if_neg (fun h => h.elim h2 h1)]
  go_enter Try.func71, Try.ntmps71
  go_upto_region 1 with fail
  rw [show (w.alloc (valBox v0)) = w1 from HW.out.symm]
  clear HW
  go_wp2_with fail
  refine bodyPost_ret (v := .tuple #[(numV z).agg, .int .i64 0]) (results_row_tmp rfl _ _ (w.heap.size) 23 _ (0, 0) _ rfl (set3 R0.out) Try.underlying23 rfl (by kernel_rfl) rfl) rfl ?_
  exact ⟨by rw [hr.out], below_set3 HB.out (Nat.le_refl _)⟩

set_option maxHeartbeats 6400000 in
theorem refReckon3_any (a b : Int) (w : World) (ha : -1099511627776 ≤ a ∧ a ≤ 1099511627776) (hb : -1099511627776 ≤ b ∧ b ≤ 1099511627776) : Calls Try.prog 71 #[.int .i64 3, .int .i64 a, .int .i64 b] w fun r w' => r = .returned (.tuple #[(rkV (a - b)).1.agg, .int .i64 (rkV (a - b)).2]) ∧ Below w.heap.size w w' := by
  obtain ⟨w1, hw1⟩ : ∃ w1, w1 = (w.alloc (valBox v0)) := ⟨_, rfl⟩
  have HW := Lib.hid hw1
  have R0 : Hid (w1.heap[w.heap.size]? = some (valBox v0)) := by rw [hw1]; exact new_row _ _ rfl
  have HB : Hid (Below w.heap.size w w1) := by rw [hw1]; exact below_new (Below.refl _ _) _
  have SZ : Hid (w1.heap.size = w.heap.size + 1) := by show _ = _; rw [hw1]; simp only [World.size_alloc]
  obtain ⟨p0_0, p0_1, p0_2⟩ := valB_row R0.out
  clear hw1
  have f0 := frozen_row R0.out
  obtain ⟨z, hz⟩ : ∃ z, a - b = z := ⟨_, rfl⟩
  have q1 : IntKind.i64.wrap (a - b) = z := by rw [hz]; exact wrap_is (by omega)
  rw [hz]
  clear ha hb hz
  by_cases h1 : 1099511627776 < z
  · have hr : Hid (rkV z = (v0, 20)) := by show _ = _; rw [rkV, if_pos (Or.inr h1)]
    go_enter Try.func71, Try.ntmps71
    go_upto_region 1 with fail
    rw [show (w.alloc (valBox v0)) = w1 from HW.out.symm]
    clear HW
    go_wp2_with fail
    refine bodyPost_ret (v := .tuple #[(v0).agg, .int .i64 20]) (results_row_tmp rfl _ _ (w.heap.size) 23 _ (0, 0) _ rfl (set3 R0.out) Try.underlying23 rfl (by kernel_rfl) rfl) rfl ?_
    exact ⟨by rw [hr.out], below_set3 HB.out (Nat.le_refl _)⟩
  by_cases h2 : z < -1099511627776
  · have hr : Hid (rkV z = (v0, 20)) := by show _ = _; rw [rkV, if_pos (Or.inl h2)]
    go_enter Try.func71, Try.ntmps71
    go_upto_region 1 with fail
    rw [show (w.alloc (valBox v0)) = w1 from HW.out.symm]
    clear HW
    go_wp2_with fail
    refine bodyPost_ret (v := .tuple #[(v0).agg, .int .i64 20]) (results_row_tmp rfl _ _ (w.heap.size) 23 _ (0, 0) _ rfl (set3 R0.out) Try.underlying23 rfl (by kernel_rfl) rfl) rfl ?_
    exact ⟨by rw [hr.out], below_set3 HB.out (Nat.le_refl _)⟩
  have hr : Hid (rkV z = (numV z, 0)) := by show _ = _; rw [rkV, if_neg (fun h => h.elim h2 h1)]
  go_enter Try.func71, Try.ntmps71
  go_upto_region 1 with fail
  rw [show (w.alloc (valBox v0)) = w1 from HW.out.symm]
  clear HW
  go_wp2_with fail
  refine bodyPost_ret (v := .tuple #[(numV z).agg, .int .i64 0]) (results_row_tmp rfl _ _ (w.heap.size) 23 _ (0, 0) _ rfl (set3 R0.out) Try.underlying23 rfl (by kernel_rfl) rfl) rfl ?_
  exact ⟨by rw [hr.out], below_set3 HB.out (Nat.le_refl _)⟩

set_option maxHeartbeats 12800000 in
theorem refReckon4_any (a b : Int) (w : World) (ha : -1099511627776 ≤ a ∧ a ≤ 1099511627776) (hb : -1099511627776 ≤ b ∧ b ≤ 1099511627776) : Calls Try.prog 71 #[.int .i64 4, .int .i64 a, .int .i64 b] w fun r w' => r = .returned (.tuple #[(rkV (a * b)).1.agg, .int .i64 (rkV (a * b)).2]) ∧ Below w.heap.size w w' := by
  obtain ⟨w1, hw1⟩ : ∃ w1, w1 = (w.alloc (valBox v0)) := ⟨_, rfl⟩
  have HW := Lib.hid hw1
  have R0 : Hid (w1.heap[w.heap.size]? = some (valBox v0)) := by rw [hw1]; exact new_row _ _ rfl
  have HB : Hid (Below w.heap.size w w1) := by rw [hw1]; exact below_new (Below.refl _ _) _
  have SZ : Hid (w1.heap.size = w.heap.size + 1) := by show _ = _; rw [hw1]; simp only [World.size_alloc]
  obtain ⟨p0_0, p0_1, p0_2⟩ := valB_row R0.out
  clear hw1
  have f0 := frozen_row R0.out
  rcases Decidable.em (a = 0) with h0 | h0
  · subst h0
    have q1 : IntKind.i64.wrap (0 * b) = 0 := by rw [Int.zero_mul]; rfl
    have hr : Hid (rkV (0 * b) = (numV 0, 0)) := by show _ = _; rw [Int.zero_mul]; rfl
    rw [hr.out]
    clear ha hb
    go_enter Try.func71, Try.ntmps71
    go_upto_region 1 with fail
    rw [show (w.alloc (valBox v0)) = w1 from HW.out.symm]
    clear HW
    go_wp2_with fail
    refine bodyPost_ret (v := .tuple #[(numV 0).agg, .int .i64 0]) (results_row_tmp rfl _ _ (w.heap.size) 23 _ (0, 0) _ rfl (set3 R0.out) Try.underlying23 rfl (by kernel_rfl) rfl) rfl ?_
    exact ⟨rfl, below_set3 HB.out (Nat.le_refl _)⟩
  have hx0 : absZ a ≠ 0 := by rw [absZ]; omega
  have hxp : 0 < absZ a := by rw [absZ]; omega
  obtain ⟨l, hl⟩ : ∃ l, 1099511627776 / absZ a = l := ⟨_, rfl⟩
  have hl0 : 0 ≤ l := by rw [← hl]; exact Int.ediv_nonneg (by omega) (by omega)
  have hl1 : l ≤ 1099511627776 := by rw [← hl]; exact Int.ediv_le_self _ (by omega)
  have hbb : l < absZ b ↔ (l < b ∨ b < -l) := by rw [absZ]; omega
  have g0 := beq_no h0
  have g1 : (a != 0) = true := by simp [bne, g0]
  have HO : Hid (l < absZ b → rkV (a * b) = (v0, 20)) := by
    show l < absZ b → _
    intro h
    rw [← rk_prod, prodZ, if_neg h0, hl, if_pos h]; rfl
  have HI : Hid (¬ l < absZ b → rkV (a * b) = (numV (a * b), 0) ∧ -9223372036854775808 ≤ a * b ∧ a * b ≤ 9223372036854775807 ∧ ¬ 1099511627776 < a * b ∧ ¬ a * b < -1099511627776) := by
    show ¬ l < absZ b → _
    intro h
    have h2 := prod_rng h0 (b := b) (by rw [hl]; exact h)
    exact ⟨by rw [rkV, if_neg (by omega)], by omega, by omega, by omega, by omega⟩
  have fin : ∀ L : Int, IntKind.i64.wrap ((1099511627776 : Int).tdiv a) = L → ((L < 0 ∧ IntKind.i64.wrap (-L) = l) ∨ (¬ L < 0 ∧ L = l)) → Calls Try.prog 71 #[.int .i64 4, .int .i64 a, .int .i64 b] w fun r w' => r = .returned (.tuple #[(rkV (a * b)).1.agg, .int .i64 (rkV (a * b)).2]) ∧ Below w.heap.size w w' := by
    intro L q1 hL
    have nl : IntKind.i64.wrap (-l) = -l := wrap_is (by omega)
    clear hl hx0 hxp ha hb
    rcases hL with ⟨n1, q2⟩ | ⟨n1, rfl⟩
    · by_cases h1 : l < b
      · have hr : Hid (rkV (a * b) = (v0, 20)) := by show _ = _; exact HO.out (hbb.2 (.inl h1))
        clear hbb
        go_enter Try.func71, Try.ntmps71
        go_upto_region 1 with fail
        rw [show (w.alloc (valBox v0)) = w1 from HW.out.symm]
        clear HW
        go_wp2_with fail
        refine bodyPost_ret (v := .tuple #[(v0).agg, .int .i64 20]) (results_row_tmp rfl _ _ (w.heap.size) 23 _ (0, 0) _ rfl (set3 R0.out) Try.underlying23 rfl (by kernel_rfl) rfl) rfl ?_
        exact ⟨by rw [hr.out], below_set3 HB.out (Nat.le_refl _)⟩
      by_cases h2 : b < -l
      · have hr : Hid (rkV (a * b) = (v0, 20)) := by show _ = _; exact HO.out (hbb.2 (.inr h2))
        clear hbb
        go_enter Try.func71, Try.ntmps71
        go_upto_region 1 with fail
        rw [show (w.alloc (valBox v0)) = w1 from HW.out.symm]
        clear HW
        go_wp2_with fail
        refine bodyPost_ret (v := .tuple #[(v0).agg, .int .i64 20]) (results_row_tmp rfl _ _ (w.heap.size) 23 _ (0, 0) _ rfl (set3 R0.out) Try.underlying23 rfl (by kernel_rfl) rfl) rfl ?_
        exact ⟨by rw [hr.out], below_set3 HB.out (Nat.le_refl _)⟩
      obtain ⟨e1, e2, e3, e4, e5⟩ := HI.out (fun h => (hbb.1 h).elim h1 h2)
      have hr : Hid (rkV (a * b) = (numV (a * b), 0)) := Lib.hid e1
      obtain ⟨z, hz⟩ : ∃ z, a * b = z := ⟨_, rfl⟩
      have q3 : IntKind.i64.wrap (a * b) = z := by rw [← hz]; exact wrap_is ⟨e2, e3⟩
      rw [hz] at hr e4 e5 ⊢
      clear hbb e1 e2 e3 hz
      go_enter Try.func71, Try.ntmps71
      go_upto_region 1 with fail
      rw [show (w.alloc (valBox v0)) = w1 from HW.out.symm]
      clear HW
      go_wp2_with fail
      refine bodyPost_ret (v := .tuple #[(numV z).agg, .int .i64 0]) (results_row_tmp rfl _ _ (w.heap.size) 23 _ (0, 0) _ rfl (set3 R0.out) Try.underlying23 rfl (by kernel_rfl) rfl) rfl ?_
      exact ⟨by rw [hr.out], below_set3 HB.out (Nat.le_refl _)⟩
    · by_cases h1 : L < b
      · have hr : Hid (rkV (a * b) = (v0, 20)) := by show _ = _; exact HO.out (hbb.2 (.inl h1))
        clear hbb
        go_enter Try.func71, Try.ntmps71
        go_upto_region 1 with fail
        rw [show (w.alloc (valBox v0)) = w1 from HW.out.symm]
        clear HW
        go_wp2_with fail
        refine bodyPost_ret (v := .tuple #[(v0).agg, .int .i64 20]) (results_row_tmp rfl _ _ (w.heap.size) 23 _ (0, 0) _ rfl (set3 R0.out) Try.underlying23 rfl (by kernel_rfl) rfl) rfl ?_
        exact ⟨by rw [hr.out], below_set3 HB.out (Nat.le_refl _)⟩
      by_cases h2 : b < -L
      · have hr : Hid (rkV (a * b) = (v0, 20)) := by show _ = _; exact HO.out (hbb.2 (.inr h2))
        clear hbb
        go_enter Try.func71, Try.ntmps71
        go_upto_region 1 with fail
        rw [show (w.alloc (valBox v0)) = w1 from HW.out.symm]
        clear HW
        go_wp2_with fail
        refine bodyPost_ret (v := .tuple #[(v0).agg, .int .i64 20]) (results_row_tmp rfl _ _ (w.heap.size) 23 _ (0, 0) _ rfl (set3 R0.out) Try.underlying23 rfl (by kernel_rfl) rfl) rfl ?_
        exact ⟨by rw [hr.out], below_set3 HB.out (Nat.le_refl _)⟩
      obtain ⟨e1, e2, e3, e4, e5⟩ := HI.out (fun h => (hbb.1 h).elim h1 h2)
      have hr : Hid (rkV (a * b) = (numV (a * b), 0)) := Lib.hid e1
      obtain ⟨z, hz⟩ : ∃ z, a * b = z := ⟨_, rfl⟩
      have q3 : IntKind.i64.wrap (a * b) = z := by rw [← hz]; exact wrap_is ⟨e2, e3⟩
      rw [hz] at hr e4 e5 ⊢
      clear hbb e1 e2 e3 hz
      go_enter Try.func71, Try.ntmps71
      go_upto_region 1 with fail
      rw [show (w.alloc (valBox v0)) = w1 from HW.out.symm]
      clear HW
      go_wp2_with fail
      refine bodyPost_ret (v := .tuple #[(numV z).agg, .int .i64 0]) (results_row_tmp rfl _ _ (w.heap.size) 23 _ (0, 0) _ rfl (set3 R0.out) Try.underlying23 rfl (by kernel_rfl) rfl) rfl ?_
      exact ⟨by rw [hr.out], below_set3 HB.out (Nat.le_refl _)⟩
  rcases Int.lt_or_le a 0 with hn | hn
  · have ht : (1099511627776 : Int).tdiv a = -l := by
      have ha2 : a = -absZ a := by rw [absZ]; omega
      rw [ha2, Int.tdiv_neg, Int.tdiv_eq_ediv_of_nonneg (by omega), hl]
    have hl2 : 0 < l := by
      rw [← hl]
      have : absZ a ≤ 1099511627776 := by rw [absZ]; omega
      have := (Int.le_ediv_iff_mul_le hxp (a := 1) (b := 1099511627776)).2 (by omega)
      omega
    exact fin (-l) (by rw [ht]; exact wrap_is (by omega)) (.inl ⟨by omega, by rw [Int.neg_neg]; exact wrap_is (by omega)⟩)
  · have ht : (1099511627776 : Int).tdiv a = l := by
      have ha2 : a = absZ a := by rw [absZ]; omega
      rw [ha2, Int.tdiv_eq_ediv_of_nonneg (by omega), hl]
    exact fin l (by rw [ht]; exact wrap_is (by omega)) (.inr ⟨by omega, rfl⟩)
end Go.Proofs.Ytkpkkkmokgmhfaa
