/- Layer 12: what is amiss in an expression, of whatever it is asked. -/
import Derived.Test.YtkpkkkmokgmhfaaExpEvery
namespace Go.Proofs.Ytkpkkkmokgmhfaa
set_option maxRecDepth 100000
open Go.RowKit Go.MapKept

theorem run_bound (W : World) (g1 g2 : Nat) : (Instr.makeFunc (.func 59) #[langV g1 g2] #[]).run Try.prog W = .ok (.func (.func 59) #[langV g1 g2] #[]) W := rfl
set_option maxHeartbeats 6400000 in
theorem amiss_any (g1 g2 : Nat) (e : E6) (w : World) (hl : Lang w g1 g2) (h : ReadsE w e) : Calls Try.prog 27 #[langV g1 g2, e.agg] w fun r w' => r = .returned (.int .i64 (amissE e)) ∧ Below w.heap.size w w' := by
  obtain ⟨w1, hw1⟩ : ∃ w1, w1 = ((w.alloc (langBox g1 g2)).alloc (exprBox e)) := ⟨_, rfl⟩
  have HW := Lib.hid hw1
  have R0 : Hid (w1.heap[w.heap.size]? = some (langBox g1 g2)) := by rw [hw1]; exact old_row _ (new_row _ _ rfl)
  have R1 : Hid (w1.heap[w.heap.size + 1]? = some (exprBox e)) := by rw [hw1]; exact new_row _ _ (by simp only [World.size_alloc])
  have HB : Hid (Below w.heap.size w w1) := by rw [hw1]; exact below_new (below_new (Below.refl _ _) _) _
  have SZ : Hid (w1.heap.size = w.heap.size + 1 + 1) := by show _ = _; rw [hw1]; simp only [World.size_alloc]
  obtain ⟨p0_0, p0_1⟩ := lang_row R0.out
  obtain ⟨p1_0, p1_1, p1_2, p1_3, p1_4, p1_5⟩ := expr_row R1.out
  clear hw1
  obtain ⟨t, ht⟩ : ∃ t, Hid (withinB 20 e = t) := ⟨_, rfl⟩
  obtain ⟨s, hs⟩ : ∃ s, Hid (everyB form1 20 e = s) := ⟨_, rfl⟩
  have hr : Hid (amissE e = if t = true then (if s = true then 0 else 1) else 2) := by show _ = _; rw [amissE, ht.out, hs.out]
  rw [hr.out]
  have C1 : Hid (∀ W, Below w.heap.size w W → Calls Try.prog 58 #[.agg #[.int .i64 e.k, .int .i64 e.n, .int .i64 e.v.k, .int .i64 e.v.n, .string e.v.s, .slice e.a e.m e.c], .int .i64 20] W fun r w' => r = .returned (.bool t) ∧ Below W.heap.size W w') := fun W hW => by rw [← ht.out]; exact within_any 20 e W (by omega) (h.keep hW)
  have C2 : Hid (t = true → ∀ W, Below w.heap.size w W → Calls Try.prog 32 #[.agg #[.int .i64 e.k, .int .i64 e.n, .int .i64 e.v.k, .int .i64 e.v.n, .string e.v.s, .slice e.a e.m e.c], .func (.func 59) #[langV g1 g2] #[]] W fun r w' => r = .returned (.bool s) ∧ Below W.heap.size W w') := by
    show t = true → _
    intro h1 W hW
    rw [← hs.out]; exact everyF_any g1 g2 20 e W (hl.below hW) (h.keep hW) (by rw [ht.out, h1])
  have MF := run_bound
  clear hl h ht hs hr
  go_enter Try.func27, Try.ntmps27
  go_upto_region 1 with fail
  rw [show ((w.alloc (langBox g1 g2)).alloc (exprBox e)) = w1 from HW.out.symm]
  clear HW
  go_wp2_with fail
  refine (C1.out _ HB.out).mono ?_
  rintro r2 w2 ⟨rfl, b2⟩
  have HB2 := Lib.hid (below_then HB.out b2)
  have q0 := lang_row (row_below R0.out b2)
  obtain ⟨p0_0', p0_1'⟩ := q0
  obtain ⟨q1_0, q1_1, q1_2, q1_3, q1_4, q1_5⟩ := expr_row (row_below R1.out b2)
  clear b2 p0_0 p0_1 p1_0 p1_1 p1_2 p1_3 p1_4 p1_5 C1
  cases t with
  | false =>
    go_wp2_with fail
    go_ret
    exact ⟨rfl, HB2.out⟩
  | true =>
    have C3 := Lib.hid (C2.out rfl)
    clear C2
    go_wp2_with fail
    refine (C3.out _ HB2.out).mono ?_
    rintro r3 w3 ⟨rfl, b3⟩
    have HB3 := Lib.hid (below_then HB2.out b3)
    clear b3 C3
    cases s with
    | false =>
      go_wp2_with fail
      go_ret
      exact ⟨rfl, HB3.out⟩
    | true =>
      go_wp2_with fail
      go_ret
      exact ⟨rfl, HB3.out⟩
end Go.Proofs.Ytkpkkkmokgmhfaa
