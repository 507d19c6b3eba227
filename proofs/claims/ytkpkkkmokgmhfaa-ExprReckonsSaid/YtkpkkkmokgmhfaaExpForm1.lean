/- Layer 12: whether an expression is formed, but for what it is of. -/
import Derived.Test.YtkpkkkmokgmhfaaExpWithin
namespace Go.Proofs.Ytkpkkkmokgmhfaa
set_option maxRecDepth 100000
open Go.RowKit Go.MapKept

set_option maxHeartbeats 12800000 in
theorem formed1_any (g1 g2 : Nat) (e : E6) (w : World) (h : Lang w g1 g2) : Calls Try.prog 59 #[langV g1 g2, e.agg] w fun r w' => r = .returned (.bool (form1 e)) ∧ Below w.heap.size w w' := by
  obtain ⟨w1, hw1⟩ : ∃ w1, w1 = ((w.alloc (langBox g1 g2)).alloc (exprBox e)) := ⟨_, rfl⟩
  have HW := Lib.hid hw1
  have R0 : Hid (w1.heap[w.heap.size]? = some (langBox g1 g2)) := by rw [hw1]; exact old_row _ (new_row _ _ rfl)
  have R1 : Hid (w1.heap[w.heap.size + 1]? = some (exprBox e)) := by rw [hw1]; exact new_row _ _ (by simp only [World.size_alloc])
  have HB : Hid (Below w.heap.size w w1) := by rw [hw1]; exact below_new (below_new (Below.refl _ _) _) _
  have SZ : Hid (w1.heap.size = w.heap.size + 1 + 1) := by show _ = _; rw [hw1]; simp only [World.size_alloc]
  obtain ⟨p0_0, p0_1⟩ := lang_row R0.out
  obtain ⟨p1_0, p1_1, p1_2, p1_3, p1_4, p1_5⟩ := expr_row R1.out
  clear hw1
  obtain ⟨r, hr⟩ : ∃ r, Hid (form1 e = r) := ⟨_, rfl⟩
  rw [hr.out]
  by_cases h0 : e.k = 0
  · have LK : (Instr.lookup 54 (.map (some g1)) (.int .i64 e.k) true).run Try.prog w1 = .ok (.tuple #[.agg #[.func (.func 38) #[] #[], .func (.func 39) #[] #[], .func (.func 40) #[] #[]], .bool true]) w1 := by
      have h := h.leaf e.k w1 HB.out
      rwa [h0] at h ⊢
    obtain ⟨w2, hw2⟩ : ∃ w2, w2 = w1.alloc (.cells #[.func (.func 38) #[] #[], .func (.func 39) #[] #[], .func (.func 40) #[] #[]] 67) := ⟨_, rfl⟩
    have HW2 := Lib.hid hw2
    have B2 : Hid (Below w1.heap.size w1 w2) := by rw [hw2]; exact below_new (Below.refl _ _) _
    have HB2 := Lib.hid (below_then HB.out B2.out)
    have RL : Hid (w2.heap[w1.heap.size]? = some (.cells #[.func (.func 38) #[] #[], .func (.func 39) #[] #[], .func (.func 40) #[] #[]] 67)) := by rw [hw2]; exact heap_alloc_new _ _
    have hr2 : Hid (r = (decide (e.m = 0) && (decide (0 ≤ e.n) && decide (e.v = v0)))) := by show _ = _; rw [← hr.out, form1, if_pos h0]
    clear hw2 hr h0 h
    go_enter Try.func59, Try.ntmps59
    go_upto_region 1 with fail
    rw [show ((w.alloc (langBox g1 g2)).alloc (exprBox e)) = w1 from HW.out.symm]
    clear HW
    go_upto_region 2 with fail
    rw [show w1.alloc (.cells #[.func (.func 38) #[] #[], .func (.func 39) #[] #[], .func (.func 40) #[] #[]] 67) = w2 from HW2.out.symm]
    clear HW2 LK p1_0 p1_1 p1_2 p1_3 p1_4 p1_5 p0_0 p0_1
    obtain ⟨p1_0, p1_1, p1_2, p1_3, p1_4, p1_5⟩ := expr_row (row_below R1.out B2.out)
    generalize w1.heap.size = gl at RL ⊢
    have l0 : w2.cell? ⟨gl, 0, none⟩ = some (.func (.func 38) #[] #[]) := cell_row RL.out 0
    rcases Nat.eq_zero_or_pos e.m with h2 | h2
    · have hr3 : Hid (r = (decide (0 ≤ e.n) && decide (e.v = v0))) := by show _ = _; rw [hr2.out, decide_eq_true h2]; rfl
      rw [h2] at p1_5
      have C := Lib.hid (formedColumn_any e w2)
      obtain ⟨z, hz⟩ : ∃ z, Hid ((decide (0 ≤ e.n) && decide (e.v = v0)) = z) := ⟨_, rfl⟩
      rw [hz.out] at C
      have hr4 : Hid (r = z) := by show _ = _; rw [hr3.out, hz.out]
      have c2 : Hid (Calls Try.prog 38 #[.agg #[.int .i64 e.k, .int .i64 e.n, .int .i64 e.v.k, .int .i64 e.v.n, .string e.v.s, .slice e.a 0 e.c]] w2 fun r w' => r = .returned (.bool z) ∧ Below w2.heap.size w2 w') := by have := C.out; rw [E6.agg, h2] at this; exact this
      have eg := Try.eg_fc
      unfold EntersF at eg
      clear h2 hr2 hr3 C hz
      go_wp2_with fail
      refine c2.out.mono ?_
      rintro r3 w3 ⟨rfl, b3⟩
      have HB3 := Lib.hid (below_then HB2.out b3)
      clear b3
      go_wp2_with fail
      go_ret
      exact ⟨ret_bool hr4.out.symm, HB3.out⟩
    · have hr3 : Hid (r = false) := by show _ = _; rw [hr2.out, decide_eq_false (by omega)]; rfl
      have e1 : ((e.m : Int) == 0) = false := beq_no (by omega)
      clear h2 hr2
      go_wp2_with fail
      go_ret
      exact ⟨ret_bool hr3.out.symm, HB2.out⟩
  by_cases h1 : e.k = 1
  · have LK : (Instr.lookup 54 (.map (some g1)) (.int .i64 e.k) true).run Try.prog w1 = .ok (.tuple #[.agg #[.func (.func 41) #[] #[], .func (.func 42) #[] #[], .func (.func 43) #[] #[]], .bool true]) w1 := by
      have h := h.leaf e.k w1 HB.out
      rwa [h1] at h ⊢
    obtain ⟨w2, hw2⟩ : ∃ w2, w2 = w1.alloc (.cells #[.func (.func 41) #[] #[], .func (.func 42) #[] #[], .func (.func 43) #[] #[]] 67) := ⟨_, rfl⟩
    have HW2 := Lib.hid hw2
    have B2 : Hid (Below w1.heap.size w1 w2) := by rw [hw2]; exact below_new (Below.refl _ _) _
    have HB2 := Lib.hid (below_then HB.out B2.out)
    have RL : Hid (w2.heap[w1.heap.size]? = some (.cells #[.func (.func 41) #[] #[], .func (.func 42) #[] #[], .func (.func 43) #[] #[]] 67)) := by rw [hw2]; exact heap_alloc_new _ _
    have hr2 : Hid (r = (decide (e.m = 0) && (decide (e.n = 0) && mayV e.v))) := by show _ = _; rw [← hr.out, form1, if_neg (by omega), if_pos h1]
    clear hw2 hr h1 h
    go_enter Try.func59, Try.ntmps59
    go_upto_region 1 with fail
    rw [show ((w.alloc (langBox g1 g2)).alloc (exprBox e)) = w1 from HW.out.symm]
    clear HW
    go_upto_region 2 with fail
    rw [show w1.alloc (.cells #[.func (.func 41) #[] #[], .func (.func 42) #[] #[], .func (.func 43) #[] #[]] 67) = w2 from HW2.out.symm]
    clear HW2 LK p1_0 p1_1 p1_2 p1_3 p1_4 p1_5 p0_0 p0_1
    obtain ⟨p1_0, p1_1, p1_2, p1_3, p1_4, p1_5⟩ := expr_row (row_below R1.out B2.out)
    generalize w1.heap.size = gl at RL ⊢
    have l0 : w2.cell? ⟨gl, 0, none⟩ = some (.func (.func 41) #[] #[]) := cell_row RL.out 0
    rcases Nat.eq_zero_or_pos e.m with h2 | h2
    · have hr3 : Hid (r = (decide (e.n = 0) && mayV e.v)) := by show _ = _; rw [hr2.out, decide_eq_true h2]; rfl
      rw [h2] at p1_5
      have C := Lib.hid (formedLiteral_any e w2)
      obtain ⟨z, hz⟩ : ∃ z, Hid ((decide (e.n = 0) && mayV e.v) = z) := ⟨_, rfl⟩
      rw [hz.out] at C
      have hr4 : Hid (r = z) := by show _ = _; rw [hr3.out, hz.out]
      have c2 : Hid (Calls Try.prog 41 #[.agg #[.int .i64 e.k, .int .i64 e.n, .int .i64 e.v.k, .int .i64 e.v.n, .string e.v.s, .slice e.a 0 e.c]] w2 fun r w' => r = .returned (.bool z) ∧ Below w2.heap.size w2 w') := by have := C.out; rw [E6.agg, h2] at this; exact this
      have eg := Try.eg_fl
      unfold EntersF at eg
      clear h2 hr2 hr3 C hz
      go_wp2_with fail
      refine c2.out.mono ?_
      rintro r3 w3 ⟨rfl, b3⟩
      have HB3 := Lib.hid (below_then HB2.out b3)
      clear b3
      go_wp2_with fail
      go_ret
      exact ⟨ret_bool hr4.out.symm, HB3.out⟩
    · have hr3 : Hid (r = false) := by show _ = _; rw [hr2.out, decide_eq_false (by omega)]; rfl
      have e1 : ((e.m : Int) == 0) = false := beq_no (by omega)
      clear h2 hr2
      go_wp2_with fail
      go_ret
      exact ⟨ret_bool hr3.out.symm, HB2.out⟩
  have LK : (Instr.lookup 54 (.map (some g1)) (.int .i64 e.k) true).run Try.prog w1 = .ok (.tuple #[.agg #[.nilFunc, .nilFunc, .nilFunc], .bool false]) w1 := by
    have h := h.leaf e.k w1 HB.out
    rwa [leafAt, if_neg h0, if_neg h1] at h
  obtain ⟨w2, hw2⟩ : ∃ w2, w2 = w1.alloc (.cells #[.nilFunc, .nilFunc, .nilFunc] 67) := ⟨_, rfl⟩
  have HW2 := Lib.hid hw2
  have B2 : Hid (Below w1.heap.size w1 w2) := by rw [hw2]; exact below_new (Below.refl _ _) _
  have HB2 := Lib.hid (below_then HB.out B2.out)
  have c0 := cell_row (row_below R0.out B2.out) 1
  obtain ⟨c1_0, c1_1, c1_2, c1_3, c1_4, c1_5⟩ := expr_row (row_below R1.out B2.out)
  replace c0 : w2.cell? ⟨w.heap.size, 1, none⟩ = some (.map (some g2)) := c0
  by_cases h2 : 2 ≤ e.k ∧ e.k ≤ 10
  · obtain ⟨t, tt, LO, _⟩ := h.op h2
    have hr2 : Hid (r = (decide (e.m = manyZ e.k) && (decide (e.n = 0) && decide (e.v = v0)))) := by show _ = _; rw [← hr.out, form1, if_neg h0, if_neg h1, if_pos h2]
    obtain ⟨tm, ta, ts, tcb⟩ := t
    have hm : tm = manyZ e.k := tt.many
    replace LO : (Instr.lookup 55 (.map (some g2)) (.int .i64 e.k) true).run Try.prog w2 = .ok (.tuple #[.agg #[.int .i64 tm, .func (.func ta) #[] #[], .func (.func ts) #[] tcb], .bool true]) w2 := LO w2 HB2.out
    obtain ⟨w3, hw3⟩ : ∃ w3, w3 = w2.alloc (.cells #[.int .i64 tm, .func (.func ta) #[] #[], .func (.func ts) #[] tcb] 73) := ⟨_, rfl⟩
    have HW3 := Lib.hid hw3
    have B3 : Below w2.heap.size w2 w3 := by rw [hw3]; exact below_new (Below.refl _ _) _
    have HB3 := Lib.hid (below_then HB2.out B3)
    have RO : Hid (w3.heap[w2.heap.size]? = some (.cells #[.int .i64 tm, .func (.func ta) #[] #[], .func (.func ts) #[] tcb] 73)) := by rw [hw3]; exact heap_alloc_new _ _
    have R13 := Lib.hid (row_below (row_below R1.out B2.out) B3)
    rw [← hm] at hr2
    obtain ⟨q, hq0⟩ : ∃ q, Hid (decide (e.v = v0) = q) := ⟨_, rfl⟩
    have EQ := fun W => run_eqV e.v v0 W
    rw [hq0.out] at EQ
    rw [hq0.out] at hr2
    have C := Lib.hid nothing_any
    clear hw2 hr h0 h1 h h2 hm tt hw3 B3 hq0
    go_enter Try.func59, Try.ntmps59
    go_upto_region 1 with fail
    rw [show ((w.alloc (langBox g1 g2)).alloc (exprBox e)) = w1 from HW.out.symm]
    clear HW
    go_upto_region 2 with fail
    rw [show w1.alloc (.cells #[.nilFunc, .nilFunc, .nilFunc] 67) = w2 from HW2.out.symm]
    clear HW2 LK p1_0 p1_1 p1_2 p1_3 p1_4 p1_5 p0_0 p0_1
    generalize w1.heap.size = gl
    go_upto_region 5 with fail
    rw [show w2.alloc (.cells #[.int .i64 tm, .func (.func ta) #[] #[], .func (.func ts) #[] tcb] 73) = w3 from HW3.out.symm]
    clear HW3 LO c0 c1_0 c1_1 c1_2 c1_3 c1_4 c1_5
    generalize w2.heap.size = go_ at RO ⊢
    have ko : ∀ p : BelowOf w3, p.W.cell? ⟨go_, 0, none⟩ = some (.int .i64 tm) := fun p => p.cell (cell_row RO.out 0)
    have k1_0 : ∀ p : BelowOf w3, p.W.cell? ⟨w.heap.size + 1, 0, none⟩ = some (.int .i64 e.k) := fun p => p.cell (cell_row R13.out 0)
    have k1_1 : ∀ p : BelowOf w3, p.W.cell? ⟨w.heap.size + 1, 1, none⟩ = some (.int .i64 e.n) := fun p => p.cell (cell_row R13.out 1)
    have k1_2 : ∀ p : BelowOf w3, p.W.cell? ⟨w.heap.size + 1, 2, none⟩ = some (.int .i64 e.v.k) := fun p => p.cell (cell_row R13.out 2)
    have k1_3 : ∀ p : BelowOf w3, p.W.cell? ⟨w.heap.size + 1, 3, none⟩ = some (.int .i64 e.v.n) := fun p => p.cell (cell_row R13.out 3)
    have k1_4 : ∀ p : BelowOf w3, p.W.cell? ⟨w.heap.size + 1, 4, none⟩ = some (.string e.v.s) := fun p => p.cell (cell_row R13.out 4)
    have k1_5 : ∀ p : BelowOf w3, p.W.cell? ⟨w.heap.size + 1, 5, none⟩ = some (.slice e.a e.m e.c) := fun p => p.cell (cell_row R13.out 5)
    rcases Nat.lt_trichotomy e.m tm with h3 | h3 | h3
    rotate_left
    · rcases Decidable.em (e.n = 0) with h4 | h4
      · have hr3 : Hid (r = q) := by show _ = _; rw [hr2.out, decide_eq_true h3, decide_eq_true h4]; rfl
        have e1 : ((e.m : Int) == (tm : Int)) = true := beq_yes (by omega)
        have e2 := beq_yes h4
        clear h3 h4
        refine wp_region_quiet_below (by kernel_rfl) (by kernel_rfl) ?_
        repeat (with_reducible refine wpQuiet_step (fun K hK => ?_); go_simp; first | (with_reducible refine hK _ ?_; clear hK K) | (apply Exists.intro; with_reducible refine ⟨fun _ => ?_, hK _ ?_⟩; (exact Calls.quiet_below (C.out _)); clear hK K))
        with_reducible refine wpQuiet_nil ?_
        rintro wq ⟨⟨_, hq⟩, rfl⟩
        go_wp2_with fail
        go_ret
        exact ⟨ret_bool hr3.out.symm, below_then HB3.out hq⟩
      · have hr3 : Hid (r = false) := by show _ = _; rw [hr2.out, decide_eq_false h4]; simp
        have e1 : ((e.m : Int) == (tm : Int)) = true := beq_yes (by omega)
        have e2 := beq_no h4
        clear h3 h4
        refine wp_region_quiet_below (by kernel_rfl) (by kernel_rfl) ?_
        repeat (with_reducible refine wpQuiet_step (fun K hK => ?_); go_simp; first | (with_reducible refine hK _ ?_; clear hK K) | (apply Exists.intro; with_reducible refine ⟨fun _ => ?_, hK _ ?_⟩; (exact Calls.quiet_below (C.out _)); clear hK K))
        with_reducible refine wpQuiet_nil ?_
        rintro wq ⟨⟨_, hq⟩, rfl⟩
        go_wp2_with fail
        go_ret
        exact ⟨ret_bool hr3.out.symm, below_then HB3.out hq⟩
    all_goals
      have hr3 : Hid (r = false) := by show _ = _; rw [hr2.out, decide_eq_false (by omega)]; rfl
      have e1 : ((e.m : Int) == (tm : Int)) = false := beq_no (by omega)
      clear h3
      refine wp_region_quiet_below (by kernel_rfl) (by kernel_rfl) ?_
      repeat (with_reducible refine wpQuiet_step (fun K hK => ?_); go_simp; first | (with_reducible refine hK _ ?_; clear hK K) | (apply Exists.intro; with_reducible refine ⟨fun _ => ?_, hK _ ?_⟩; (exact Calls.quiet_below (C.out _)); clear hK K))
      with_reducible refine wpQuiet_nil ?_
      rintro wq ⟨⟨_, hq⟩, rfl⟩
      go_wp2_with fail
      go_ret
      exact ⟨ret_bool hr3.out.symm, below_then HB3.out hq⟩
  · have hr2 : Hid (r = false) := by show _ = _; rw [← hr.out, form1, if_neg h0, if_neg h1, if_neg h2]
    have LO : (Instr.lookup 55 (.map (some g2)) (.int .i64 e.k) true).run Try.prog w2 = .ok (.tuple #[.agg #[.int .i64 0, .nilFunc, .nilFunc], .bool false]) w2 := h.noOp h2 w2 HB2.out
    have C := Lib.hid nothing_any
    clear hw2 hr h0 h1 h h2
    go_enter Try.func59, Try.ntmps59
    go_upto_region 1 with fail
    rw [show ((w.alloc (langBox g1 g2)).alloc (exprBox e)) = w1 from HW.out.symm]
    clear HW
    go_upto_region 2 with fail
    rw [show w1.alloc (.cells #[.nilFunc, .nilFunc, .nilFunc] 67) = w2 from HW2.out.symm]
    clear HW2 LK p1_0 p1_1 p1_2 p1_3 p1_4 p1_5 p0_0 p0_1
    generalize w1.heap.size = gl
    go_upto_region 5 with fail
    refine wp_region_quiet_below (by kernel_rfl) (by kernel_rfl) ?_
    repeat (with_reducible refine wpQuiet_step (fun K hK => ?_); go_simp; first | (with_reducible refine hK _ ?_; clear hK K) | (apply Exists.intro; with_reducible refine ⟨fun _ => ?_, hK _ ?_⟩; (exact Calls.quiet_below (C.out _)); clear hK K))
    with_reducible refine wpQuiet_nil ?_
    rintro wq ⟨⟨_, hq⟩, rfl⟩
    go_wp2_with fail
    go_ret
    exact ⟨ret_bool hr2.out.symm, below_then (below_new HB2.out _) hq⟩
end Go.Proofs.Ytkpkkkmokgmhfaa
