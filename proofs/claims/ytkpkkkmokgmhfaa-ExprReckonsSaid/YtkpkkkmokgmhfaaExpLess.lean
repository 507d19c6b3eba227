/- Layer 12: what two numbers come to, which value is less, what columns show. -/
import Derived.Test.YtkpkkkmokgmhfaaExpMay
namespace Go.Proofs.Ytkpkkkmokgmhfaa
set_option maxRecDepth 100000
open Go.RowKit Go.MapKept

theorem loadV_at (w : World) (b o : Nat) (v : V3) (hc : ∀ i x, v.cells[i]? = some x → w.cell? ⟨b, o + i, none⟩ = some x) : (loadVar 23 ⟨b, o, none⟩).run Try.prog w = .ok (.agg #[.int .i64 v.k, .int .i64 v.n, .string v.s]) w :=
  run_loadVar_at (cs := v.cells) hc Try.underlying23 rfl (by kernel_rfl)

set_option maxHeartbeats 1600000 in
theorem words1_any (a b : Int) (w : World) (h : -9223372036854775808 ≤ a + b ∧ a + b ≤ 9223372036854775807) : Calls Try.prog 46 #[.int .i64 a, .int .i64 b] w fun e w' => e = .returned (.int .i64 (a + b)) ∧ Below w.heap.size w w' := by
  have HB := Lib.hid (Below.refl w.heap.size w)
  have q1 : IntKind.i64.wrap (a + b) = a + b := wrap_is h
  clear h
  go_enter Try.func46, Try.ntmps46
  go_wp2
  go_ret
  exact ⟨rfl, HB.out⟩

set_option maxHeartbeats 1600000 in
theorem words2_any (a b : Int) (w : World) (h : -9223372036854775808 ≤ a - b ∧ a - b ≤ 9223372036854775807) : Calls Try.prog 47 #[.int .i64 a, .int .i64 b] w fun e w' => e = .returned (.int .i64 (a - b)) ∧ Below w.heap.size w w' := by
  have HB := Lib.hid (Below.refl w.heap.size w)
  have q1 : IntKind.i64.wrap (a - b) = a - b := wrap_is h
  clear h
  go_enter Try.func47, Try.ntmps47
  go_wp2
  go_ret
  exact ⟨rfl, HB.out⟩

set_option maxHeartbeats 1600000 in
theorem words3_any (x y : V3) (w : World) : Calls Try.prog 51 #[x.agg, y.agg] w fun e w' => e = .returned (.bool (decide (x = y))) ∧ Below w.heap.size w w' := by
  obtain ⟨w1, hw1⟩ : ∃ w1, w1 = ((w.alloc (valBox x)).alloc (valBox y)) := ⟨_, rfl⟩
  have HW := Lib.hid hw1
  have R0 : Hid (w1.heap[w.heap.size]? = some (valBox x)) := by rw [hw1]; exact old_row _ (new_row _ _ rfl)
  have R1 : Hid (w1.heap[w.heap.size + 1]? = some (valBox y)) := by rw [hw1]; exact new_row _ _ (by simp only [World.size_alloc])
  have HB : Hid (Below w.heap.size w w1) := by rw [hw1]; exact below_new (below_new (Below.refl _ _) _) _
  have SZ : Hid (w1.heap.size = w.heap.size + 1 + 1) := by show _ = _; rw [hw1]; simp only [World.size_alloc]
  obtain ⟨p0_0, p0_1, p0_2⟩ := valB_row R0.out
  obtain ⟨p1_0, p1_1, p1_2⟩ := valB_row R1.out
  clear hw1
  obtain ⟨r, hr⟩ : ∃ r, Hid (decide (x = y) = r) := ⟨_, rfl⟩
  have EQ := fun W => run_eqV x y W
  rw [hr.out] at EQ ⊢
  go_enter Try.func51, Try.ntmps51
  go_upto_region 1 with fail
  rw [show ((w.alloc (valBox x)).alloc (valBox y)) = w1 from HW.out.symm]
  clear HW
  go_wp2
  go_ret
  exact ⟨rfl, HB.out⟩

/-- of two values of one kind -/
theorem less_any (x y : V3) (w : World) (hk : x.k = 1 ∨ x.k = 2) : Calls Try.prog 52 #[x.agg, y.agg] w fun e w' => e = .returned (.bool (lessV x y)) ∧ Below w.heap.size w w' := by
  obtain ⟨w1, hw1⟩ : ∃ w1, w1 = ((w.alloc (valBox x)).alloc (valBox y)) := ⟨_, rfl⟩
  have HW := Lib.hid hw1
  have R0 : Hid (w1.heap[w.heap.size]? = some (valBox x)) := by rw [hw1]; exact old_row _ (new_row _ _ rfl)
  have R1 : Hid (w1.heap[w.heap.size + 1]? = some (valBox y)) := by rw [hw1]; exact new_row _ _ (by simp only [World.size_alloc])
  have HB : Hid (Below w.heap.size w w1) := by rw [hw1]; exact below_new (below_new (Below.refl _ _) _) _
  have SZ : Hid (w1.heap.size = w.heap.size + 1 + 1) := by show _ = _; rw [hw1]; simp only [World.size_alloc]
  obtain ⟨p0_0, p0_1, p0_2⟩ := valB_row R0.out
  obtain ⟨p1_0, p1_1, p1_2⟩ := valB_row R1.out
  clear hw1
  obtain ⟨r, hr⟩ : ∃ r, Hid (lessV x y = r) := ⟨_, rfl⟩
  rw [hr.out]
  rcases Decidable.em (x.k = 1) with h1 | h1
  · have hr2 : Hid (r = decide (x.n < y.n)) := by show _ = _; rw [← hr.out, lessV, if_neg (by omega)]
    have e1 := beq_yes h1
    clear h1 hk hr
    by_cases h2 : x.n < y.n
    · go_enter Try.func52, Try.ntmps52
      go_upto_region 1 with fail
      rw [show ((w.alloc (valBox x)).alloc (valBox y)) = w1 from HW.out.symm]
      clear HW
      go_wp2
      go_ret
      exact ⟨ret_bool (by rw [hr2.out]; simp [h2]), HB.out⟩
    · go_enter Try.func52, Try.ntmps52
      go_upto_region 1 with fail
      rw [show ((w.alloc (valBox x)).alloc (valBox y)) = w1 from HW.out.symm]
      clear HW
      go_wp2
      go_ret
      exact ⟨ret_bool (by rw [hr2.out]; simp [h2]), HB.out⟩
  · have hr2 : Hid (Op.bytesLess x.s.toList y.s.toList = r) := by show _ = _; rw [← hr.out, lessV, if_pos (by omega), strLess]
    have e1 := beq_no h1
    have e2 := hr2.out
    clear h1 hk hr
    go_enter Try.func52, Try.ntmps52
    go_upto_region 1 with fail
    rw [show ((w.alloc (valBox x)).alloc (valBox y)) = w1 from HW.out.symm]
    clear HW
    go_wp2
    go_ret
    exact ⟨by first | rfl | simp, HB.out⟩

/-- a product, or a number beyond -/
def prodZ (a b : Int) : Int := if a = 0 then 0 else if 1099511627776 / absZ a < absZ b then 1099511627776 + 1 else a * b
theorem abs_div {a b : Int} (h : a ≠ 0) : 1099511627776 / absZ a < absZ b ↔ 1099511627776 < absZ a * absZ b := by
  have ha : 0 < absZ a := by rw [absZ]; omega
  rw [Int.ediv_lt_iff_lt_mul ha, Int.mul_comm]
theorem abs_mul (a b : Int) : absZ a * absZ b = absZ (a * b) := by
  have h : ∀ z : Int, absZ z = z.natAbs := fun z => by rw [absZ]; omega
  rw [h, h, h, Int.natAbs_mul]; rfl
theorem prod_reck (x y : V3) (a b : Int) : reckV x y (prodZ a b) = reckV x y (a * b) := by
  rw [prodZ]
  by_cases h0 : a = 0
  · rw [if_pos h0, h0, Int.zero_mul]
  · rw [if_neg h0]
    by_cases h1 : 1099511627776 / absZ a < absZ b
    · rw [if_pos h1]
      rw [abs_div h0, abs_mul] at h1
      have h2 : a * b < -1099511627776 ∨ 1099511627776 < a * b := by
        rw [absZ] at h1; omega
      rw [reckV, reckV, if_pos (show ((1099511627776 : Int) + 1 < -1099511627776 ∨ (1099511627776 : Int) < 1099511627776 + 1) from Or.inr (by omega)), if_pos h2]
    · rw [if_neg h1]
theorem prod_rng {a b : Int} (ha : a ≠ 0) (h : ¬ 1099511627776 / absZ a < absZ b) : -1099511627776 ≤ a * b ∧ a * b ≤ 1099511627776 := by
  rw [abs_div ha, abs_mul, absZ] at h
  omega
set_option maxHeartbeats 3200000 in
theorem product_any (a b : Int) (w : World) (ha : -1099511627776 ≤ a ∧ a ≤ 1099511627776) (hb : -1099511627776 ≤ b ∧ b ≤ 1099511627776) : Calls Try.prog 48 #[.int .i64 a, .int .i64 b] w fun e w' => e = .returned (.int .i64 (prodZ a b)) ∧ Below w.heap.size w w' := by
  have HB := Lib.hid (Below.refl w.heap.size w)
  obtain ⟨r, hr⟩ : ∃ r, Hid (prodZ a b = r) := ⟨_, rfl⟩
  rw [hr.out]
  rcases Decidable.em (a = 0) with h0 | h0
  · subst h0
    have hr2 : Hid (r = 0) := by show _ = _; rw [← hr.out, prodZ, if_pos rfl]
    have q1 : IntKind.i64.wrap (0 * b) = 0 := by rw [Int.zero_mul]; rfl
    have q2 : IntKind.i64.wrap 0 = 0 := rfl
    clear hr ha hb
    go_enter Try.func48, Try.ntmps48
    go_wp2
    go_ret
    exact ⟨ret_int hr2.out.symm, HB.out⟩
  · have C1 := Lib.hid (fun W => size_any b W (by omega))
    have C2 := Lib.hid (fun W => size_any a W (by omega))
    obtain ⟨x, hx⟩ : ∃ x, Hid (absZ a = x) := ⟨_, rfl⟩
    obtain ⟨y, hy⟩ : ∃ y, Hid (absZ b = y) := ⟨_, rfl⟩
    have hx0 : x ≠ 0 := by rw [← hx.out, absZ]; omega
    have hxp : 0 ≤ x := by rw [← hx.out, absZ]; omega
    have e1 := beq_no hx0
    have e0 := beq_no h0
    have e3 : (a != 0) = true := by simp [bne, e0]
    have qd : ((1099511627776 : Int).tdiv x) = 1099511627776 / x := Int.tdiv_eq_ediv_of_nonneg (by omega)
    have hdl : 0 ≤ (1099511627776 : Int) / x ∧ (1099511627776 : Int) / x ≤ 1099511627776 := ⟨Int.ediv_nonneg (by omega) hxp, Int.ediv_le_self _ (by omega)⟩
    have q1 : IntKind.i64.wrap ((1099511627776 : Int).tdiv x) = 1099511627776 / x := by rw [qd]; exact wrap_is (by omega)
    have q2 : IntKind.i64.wrap ((1099511627776 : Int) / x) = 1099511627776 / x := wrap_is (by omega)
    rw [hx.out] at C2
    rw [hy.out] at C1
    obtain ⟨d, hd⟩ : ∃ d, Hid ((1099511627776 : Int) / x = d) := ⟨_, rfl⟩
    rw [hd.out] at q1 q2 qd
    by_cases h1 : d < y
    · have hr2 : Hid (r = 1099511627776 + 1) := by show _ = _; rw [← hr.out, prodZ, if_neg h0, hx.out, hy.out, hd.out, if_pos h1]
      clear hr ha hb h0 hx hy hxp hd hdl
      go_enter Try.func48, Try.ntmps48
      go_wp2_with fail
      refine (C1.out _).mono ?_
      rintro e w1 ⟨rfl, b1⟩
      have HB1 := Lib.hid b1
      clear b1
      go_wp2_with fail
      refine (C2.out _).mono ?_
      rintro e w2 ⟨rfl, b2⟩
      have HB2 := Lib.hid (below_then HB1.out b2)
      clear b2
      go_wp2_with fail
      go_ret
      exact ⟨ret_int (by rw [hr2.out]; omega), HB2.out⟩
    · have hr2 : Hid (r = a * b) := by show _ = _; rw [← hr.out, prodZ, if_neg h0, hx.out, hy.out, hd.out, if_neg h1]
      have hr3 := prod_rng h0 (b := b) (by rw [hx.out, hy.out, hd.out]; exact h1)
      have q3 : IntKind.i64.wrap (a * b) = a * b := wrap_is (by omega)
      clear hr ha hb h0 hx hy hxp hd hdl hr3
      go_enter Try.func48, Try.ntmps48
      go_wp2_with fail
      refine (C1.out _).mono ?_
      rintro e w1 ⟨rfl, b1⟩
      have HB1 := Lib.hid b1
      clear b1
      go_wp2_with fail
      refine (C2.out _).mono ?_
      rintro e w2 ⟨rfl, b2⟩
      have HB2 := Lib.hid (below_then HB1.out b2)
      clear b2
      go_wp2_with fail
      go_ret
      exact ⟨ret_int hr2.out.symm, HB2.out⟩

set_option maxHeartbeats 3200000 in
theorem shown_any (c : C4) (w : World) : Calls Try.prog 15 #[c.agg] w fun e w' => e = .returned (.int .i64 (shownC c)) ∧ Below w.heap.size w w' := by
  obtain ⟨w1, hw1⟩ : ∃ w1, w1 = (w.alloc (.cells #[.string c.nm, .int .i64 c.k, .int .i64 c.t, .bool c.z] 42)) := ⟨_, rfl⟩
  have HW := Lib.hid hw1
  have R0 : Hid (w1.heap[w.heap.size]? = some (.cells #[.string c.nm, .int .i64 c.k, .int .i64 c.t, .bool c.z] 42)) := by rw [hw1]; exact new_row _ _ rfl
  have HB : Hid (Below w.heap.size w w1) := by rw [hw1]; exact below_new (Below.refl _ _) _
  have SZ : Hid (w1.heap.size = w.heap.size + 1) := by show _ = _; rw [hw1]; simp only [World.size_alloc]
  clear hw1
  have p1 : w1.cell? ⟨w.heap.size, 1, none⟩ = some (.int .i64 c.k) := cell_row R0.out 1
  have p2 : w1.cell? ⟨w.heap.size, 2, none⟩ = some (.int .i64 c.t) := cell_row R0.out 2
  obtain ⟨r, hr⟩ : ∃ r, Hid (shownC c = r) := ⟨_, rfl⟩
  rw [hr.out]
  rcases Decidable.em (c.k = 0) with h0 | h0
  · have hr2 : Hid (r = c.t) := by show _ = _; rw [← hr.out, shownC]; simp [h0]
    rw [h0] at p1
    clear hr h0
    go_enter Try.func15, Try.ntmps15
    go_upto_region 1 with fail
    rw [show (w.alloc (.cells #[.string c.nm, .int .i64 c.k, .int .i64 c.t, .bool c.z] 42)) = w1 from HW.out.symm]
    clear HW
    go_wp2
    go_ret
    exact ⟨ret_int hr2.out.symm, HB.out⟩
  rcases Decidable.em (c.k = 1) with h1 | h1
  · have hr2 : Hid (r = c.t) := by show _ = _; rw [← hr.out, shownC]; simp [h1]
    rw [h1] at p1
    clear hr h0 h1
    go_enter Try.func15, Try.ntmps15
    go_upto_region 1 with fail
    rw [show (w.alloc (.cells #[.string c.nm, .int .i64 c.k, .int .i64 c.t, .bool c.z] 42)) = w1 from HW.out.symm]
    clear HW
    go_wp2
    go_ret
    exact ⟨ret_int hr2.out.symm, HB.out⟩
  rcases Decidable.em (c.k = 2) with h2 | h2
  · have hr2 : Hid (r = 1) := by show _ = _; rw [← hr.out, shownC]; simp [h2]
    rw [h2] at p1
    clear hr h0 h1 h2
    go_enter Try.func15, Try.ntmps15
    go_upto_region 1 with fail
    rw [show (w.alloc (.cells #[.string c.nm, .int .i64 c.k, .int .i64 c.t, .bool c.z] 42)) = w1 from HW.out.symm]
    clear HW
    go_wp2
    go_ret
    exact ⟨ret_int hr2.out.symm, HB.out⟩
  rcases Decidable.em (c.k = 3) with h3 | h3
  · have hr2 : Hid (r = 1) := by show _ = _; rw [← hr.out, shownC]; simp [h3]
    rw [h3] at p1
    clear hr h0 h1 h2 h3
    go_enter Try.func15, Try.ntmps15
    go_upto_region 1 with fail
    rw [show (w.alloc (.cells #[.string c.nm, .int .i64 c.k, .int .i64 c.t, .bool c.z] 42)) = w1 from HW.out.symm]
    clear HW
    go_wp2
    go_ret
    exact ⟨ret_int hr2.out.symm, HB.out⟩
  rcases Decidable.em (c.k = 4) with h4 | h4
  · have hr2 : Hid (r = 2) := by show _ = _; rw [← hr.out, shownC]; simp [h4]
    rw [h4] at p1
    clear hr h0 h1 h2 h3 h4
    go_enter Try.func15, Try.ntmps15
    go_upto_region 1 with fail
    rw [show (w.alloc (.cells #[.string c.nm, .int .i64 c.k, .int .i64 c.t, .bool c.z] 42)) = w1 from HW.out.symm]
    clear HW
    go_wp2
    go_ret
    exact ⟨ret_int hr2.out.symm, HB.out⟩
  have hr2 : Hid (r = 0) := by show _ = _; rw [← hr.out, shownC]; simp [h0, h1, h2, h3, h4]
  have e0 := beq_no h0; have e1 := beq_no h1; have e2 := beq_no h2; have e3 := beq_no h3; have e4 := beq_no h4
  clear hr h0 h1 h2 h3 h4
  go_enter Try.func15, Try.ntmps15
  go_upto_region 1 with fail
  rw [show (w.alloc (.cells #[.string c.nm, .int .i64 c.k, .int .i64 c.t, .bool c.z] 42)) = w1 from HW.out.symm]
  clear HW
  go_wp2
  go_ret
  exact ⟨ret_int hr2.out.symm, HB.out⟩

set_option maxHeartbeats 3200000 in
theorem refShown_any (c : C4) (w : World) : Calls Try.prog 16 #[c.agg] w fun e w' => e = .returned (.int .i64 (shownC c)) ∧ Below w.heap.size w w' := by
  obtain ⟨w1, hw1⟩ : ∃ w1, w1 = (w.alloc (.cells #[.string c.nm, .int .i64 c.k, .int .i64 c.t, .bool c.z] 42)) := ⟨_, rfl⟩
  have HW := Lib.hid hw1
  have R0 : Hid (w1.heap[w.heap.size]? = some (.cells #[.string c.nm, .int .i64 c.k, .int .i64 c.t, .bool c.z] 42)) := by rw [hw1]; exact new_row _ _ rfl
  have HB : Hid (Below w.heap.size w w1) := by rw [hw1]; exact below_new (Below.refl _ _) _
  have SZ : Hid (w1.heap.size = w.heap.size + 1) := by show _ = _; rw [hw1]; simp only [World.size_alloc]
  clear hw1
  have p1 : w1.cell? ⟨w.heap.size, 1, none⟩ = some (.int .i64 c.k) := cell_row R0.out 1
  have p2 : w1.cell? ⟨w.heap.size, 2, none⟩ = some (.int .i64 c.t) := cell_row R0.out 2
  obtain ⟨r, hr⟩ : ∃ r, Hid (shownC c = r) := ⟨_, rfl⟩
  rw [hr.out]
  rcases Decidable.em (c.k = 0) with h0 | h0
  · have hr2 : Hid (r = c.t) := by show _ = _; rw [← hr.out, shownC]; simp [h0]
    rw [h0] at p1
    clear hr h0
    go_enter Try.func16, Try.ntmps16
    go_upto_region 1 with fail
    rw [show (w.alloc (.cells #[.string c.nm, .int .i64 c.k, .int .i64 c.t, .bool c.z] 42)) = w1 from HW.out.symm]
    clear HW
    go_wp2
    go_ret
    exact ⟨ret_int hr2.out.symm, HB.out⟩
  rcases Decidable.em (c.k = 1) with h1 | h1
  · have hr2 : Hid (r = c.t) := by show _ = _; rw [← hr.out, shownC]; simp [h1]
    rw [h1] at p1
    clear hr h0 h1
    go_enter Try.func16, Try.ntmps16
    go_upto_region 1 with fail
    rw [show (w.alloc (.cells #[.string c.nm, .int .i64 c.k, .int .i64 c.t, .bool c.z] 42)) = w1 from HW.out.symm]
    clear HW
    go_wp2
    go_ret
    exact ⟨ret_int hr2.out.symm, HB.out⟩
  rcases Decidable.em (c.k = 2) with h2 | h2
  · have hr2 : Hid (r = 1) := by show _ = _; rw [← hr.out, shownC]; simp [h2]
    rw [h2] at p1
    clear hr h0 h1 h2
    go_enter Try.func16, Try.ntmps16
    go_upto_region 1 with fail
    rw [show (w.alloc (.cells #[.string c.nm, .int .i64 c.k, .int .i64 c.t, .bool c.z] 42)) = w1 from HW.out.symm]
    clear HW
    go_wp2
    go_ret
    exact ⟨ret_int hr2.out.symm, HB.out⟩
  rcases Decidable.em (c.k = 3) with h3 | h3
  · have hr2 : Hid (r = 1) := by show _ = _; rw [← hr.out, shownC]; simp [h3]
    rw [h3] at p1
    clear hr h0 h1 h2 h3
    go_enter Try.func16, Try.ntmps16
    go_upto_region 1 with fail
    rw [show (w.alloc (.cells #[.string c.nm, .int .i64 c.k, .int .i64 c.t, .bool c.z] 42)) = w1 from HW.out.symm]
    clear HW
    go_wp2
    go_ret
    exact ⟨ret_int hr2.out.symm, HB.out⟩
  rcases Decidable.em (c.k = 4) with h4 | h4
  · have hr2 : Hid (r = 2) := by show _ = _; rw [← hr.out, shownC]; simp [h4]
    rw [h4] at p1
    clear hr h0 h1 h2 h3 h4
    go_enter Try.func16, Try.ntmps16
    go_upto_region 1 with fail
    rw [show (w.alloc (.cells #[.string c.nm, .int .i64 c.k, .int .i64 c.t, .bool c.z] 42)) = w1 from HW.out.symm]
    clear HW
    go_wp2
    go_ret
    exact ⟨ret_int hr2.out.symm, HB.out⟩
  have hr2 : Hid (r = 0) := by show _ = _; rw [← hr.out, shownC]; simp [h0, h1, h2, h3, h4]
  have e0 := beq_no h0; have e1 := beq_no h1; have e2 := beq_no h2; have e3 := beq_no h3; have e4 := beq_no h4
  clear hr h0 h1 h2 h3 h4
  go_enter Try.func16, Try.ntmps16
  go_upto_region 1 with fail
  rw [show (w.alloc (.cells #[.string c.nm, .int .i64 c.k, .int .i64 c.t, .bool c.z] 42)) = w1 from HW.out.symm]
  clear HW
  go_wp2
  go_ret
  exact ⟨ret_int hr2.out.symm, HB.out⟩
end Go.Proofs.Ytkpkkkmokgmhfaa
