/- Layer 12: what an operator says: the document, numbers. -/
import Derived.Test.YtkpkkkmokgmhfaaExpReckon
namespace Go.Proofs.Ytkpkkkmokgmhfaa
set_option maxRecDepth 100000
open Go.RowKit Go.MapKept

set_option maxHeartbeats 25600000 in
theorem refSays2_any (a b : V3) (w : World) (ha : mayV a = true) (hb : mayV b = true) : Calls Try.prog 62 #[.int .i64 2, .agg #[.int .i64 a.k, .int .i64 a.n, .string a.s], .agg #[.int .i64 b.k, .int .i64 b.n, .string b.s]] w fun r w' => r = .returned (.tuple #[(if gets3 2 a.k b.k = true then saysO 2 a b else (v0, 6)).1.agg, .int .i64 (if gets3 2 a.k b.k = true then saysO 2 a b else (v0, 6)).2]) ∧ Below w.heap.size w w' := by
  obtain ⟨q, hq⟩ : ∃ q, Hid (gets3 2 a.k b.k = q) := ⟨_, rfl⟩
  have CG : Hid (∀ W, Calls Try.prog 63 #[.int .i64 2, .int .i64 a.k, .int .i64 b.k] W fun e w' => e = .returned (.bool q) ∧ Below W.heap.size W w') := fun W => by rw [← hq.out]; exact gets_any 2 a.k b.k W
  rw [hq.out]
  have S := Lib.hid (says2 a b)
  obtain ⟨n1, hn1⟩ : ∃ z, Hid (decide (a.k = 0) = z) := ⟨_, rfl⟩
  have en1 : (a.k == 0) = n1 := by rw [← hn1.out]; by_cases h : a.k = 0 <;> simp [h]
  obtain ⟨n2, hn2⟩ : ∃ z, Hid (decide (b.k = 0) = z) := ⟨_, rfl⟩
  have en2 : (b.k == 0) = n2 := by rw [← hn2.out]; by_cases h : b.k = 0 <;> simp [h]
  have hn : Hid (nullV a b = (n1 || n2)) := by show _ = _; rw [nullV, hn1.out, hn2.out]
  have hn0 : Hid (reckV a b (a.n + b.n) = if (n1 || n2) = true then (v0, 0) else rkV (a.n + b.n)) := by show _ = _; rw [← hn.out, reckV]; rfl
  have ra := may_rng ha
  have rb := may_rng hb
  have CR := Lib.hid (fun W => refReckon2_any a.n b.n W ra rb)
  obtain ⟨rk, hrk⟩ : ∃ rk, Hid (rkV (a.n + b.n) = rk) := ⟨_, rfl⟩
  rw [hrk.out] at CR hn0
  obtain ⟨rv, re⟩ := rk
  dsimp only at CR
  clear ra rb hrk
  obtain ⟨w1, hw1⟩ : ∃ w1, w1 = (((w.alloc (valBox a)).alloc (valBox b)).alloc (valBox v0)) := ⟨_, rfl⟩
  have HW := Lib.hid hw1
  have R0 : Hid (w1.heap[w.heap.size]? = some (valBox a)) := by rw [hw1]; exact old_row _ (old_row _ (new_row _ _ rfl))
  have R1 : Hid (w1.heap[w.heap.size + 1]? = some (valBox b)) := by rw [hw1]; exact old_row _ (new_row _ _ (by simp only [World.size_alloc]))
  have R2 : Hid (w1.heap[w.heap.size + 1 + 1]? = some (valBox v0)) := by rw [hw1]; exact new_row _ _ (by simp only [World.size_alloc])
  have HB : Hid (Below w.heap.size w w1) := by rw [hw1]; exact below_new (below_new (below_new (Below.refl _ _) _) _) _
  have SZ : Hid (w1.heap.size = w.heap.size + 1 + 1 + 1) := by show _ = _; rw [hw1]; simp only [World.size_alloc]
  obtain ⟨p0_0, p0_1, p0_2⟩ := valB_row R0.out
  obtain ⟨p1_0, p1_1, p1_2⟩ := valB_row R1.out
  obtain ⟨p2_0, p2_1, p2_2⟩ := valB_row R2.out
  clear hw1
  clear ha hb hq
  go_enter Try.func62, Try.ntmps62
  go_upto_region 1 with fail
  rw [show (((w.alloc (valBox a)).alloc (valBox b)).alloc (valBox v0)) = w1 from HW.out.symm]
  clear HW
  go_wp2_with fail
  refine (CG.out _).mono ?_
  rintro r2 w2 ⟨rfl, b2⟩
  have HB2 := Lib.hid (below_then HB.out b2)
  have X2 := Lib.hid (row_below R0.out b2); have Y2 := Lib.hid (row_below R1.out b2); have Z2 := Lib.hid (row_below R2.out b2)
  clear b2 p0_0 p0_1 p0_2 p1_0 p1_1 p1_2 p2_0 p2_1 p2_2 R0 R1 R2 HB SZ CG
  obtain ⟨p0_0, p0_1, p0_2⟩ := valB_row X2.out
  obtain ⟨p1_0, p1_1, p1_2⟩ := valB_row Y2.out
  obtain ⟨p2_0, p2_1, p2_2⟩ := valB_row Z2.out
  have f0 := frozen_row Z2.out
  cases q with
  | false =>
    go_wp2_with fail
    refine bodyPost_ret (v := .tuple #[(v0).agg, .int .i64 6]) (results_row_tmp rfl _ _ (w.heap.size + 1 + 1) 23 _ (0, 0) _ rfl (set3 Z2.out) Try.underlying23 rfl (by kernel_rfl) rfl) rfl ?_
    exact ⟨rfl, below_set3 HB2.out (by omega)⟩
  | true =>
    cases n1 with
    | true =>
      have hr : Hid (saysO 2 a b = (v0, 0)) := by show _ = _; rw [S.out, hn0.out]; rfl
      go_wp2_with fail
      refine bodyPost_ret (v := .tuple #[(v0).agg, .int .i64 0]) (results_row_tmp rfl _ _ (w.heap.size + 1 + 1) 23 _ (0, 0) _ rfl (set3 Z2.out) Try.underlying23 rfl (by kernel_rfl) rfl) rfl ?_
      exact ⟨by rw [hr.out], below_set3 HB2.out (by omega)⟩
    | false =>
      cases n2 with
      | true =>
        have hr : Hid (saysO 2 a b = (v0, 0)) := by show _ = _; rw [S.out, hn0.out]; rfl
        go_wp2_with fail
        refine bodyPost_ret (v := .tuple #[(v0).agg, .int .i64 0]) (results_row_tmp rfl _ _ (w.heap.size + 1 + 1) 23 _ (0, 0) _ rfl (set3 Z2.out) Try.underlying23 rfl (by kernel_rfl) rfl) rfl ?_
        exact ⟨by rw [hr.out], below_set3 HB2.out (by omega)⟩
      | false =>
        have hr : Hid (saysO 2 a b = (rv, re)) := by show _ = _; rw [S.out, hn0.out]; rfl
        go_wp2_with fail
        all_goals
          refine (CR.out _).mono ?_
          rintro r3 w3 ⟨rfl, b3⟩
          have HB3 := Lib.hid (below_then HB2.out b3)
          have Z3 := Lib.hid (row_below Z2.out b3)
          clear b3 p0_0 p0_1 p0_2 p1_0 p1_1 p1_2 p2_0 p2_1 p2_2 f0
          obtain ⟨z0, z1, z2⟩ := valB_row Z3.out
          have f3 := frozen_row Z3.out
          go_wp2_with fail
          refine bodyPost_ret (v := .tuple #[(rv).agg, .int .i64 re]) (results_row_tmp rfl _ _ (w.heap.size + 1 + 1) 23 _ (0, 0) _ rfl (set3 Z3.out) Try.underlying23 rfl (by kernel_rfl) rfl) rfl ?_
          exact ⟨by rw [hr.out], below_set3 HB3.out (by omega)⟩

set_option maxHeartbeats 25600000 in
theorem refSays3_any (a b : V3) (w : World) (ha : mayV a = true) (hb : mayV b = true) : Calls Try.prog 62 #[.int .i64 3, .agg #[.int .i64 a.k, .int .i64 a.n, .string a.s], .agg #[.int .i64 b.k, .int .i64 b.n, .string b.s]] w fun r w' => r = .returned (.tuple #[(if gets3 3 a.k b.k = true then saysO 3 a b else (v0, 6)).1.agg, .int .i64 (if gets3 3 a.k b.k = true then saysO 3 a b else (v0, 6)).2]) ∧ Below w.heap.size w w' := by
  obtain ⟨q, hq⟩ : ∃ q, Hid (gets3 3 a.k b.k = q) := ⟨_, rfl⟩
  have CG : Hid (∀ W, Calls Try.prog 63 #[.int .i64 3, .int .i64 a.k, .int .i64 b.k] W fun e w' => e = .returned (.bool q) ∧ Below W.heap.size W w') := fun W => by rw [← hq.out]; exact gets_any 3 a.k b.k W
  rw [hq.out]
  have S := Lib.hid (says3 a b)
  obtain ⟨n1, hn1⟩ : ∃ z, Hid (decide (a.k = 0) = z) := ⟨_, rfl⟩
  have en1 : (a.k == 0) = n1 := by rw [← hn1.out]; by_cases h : a.k = 0 <;> simp [h]
  obtain ⟨n2, hn2⟩ : ∃ z, Hid (decide (b.k = 0) = z) := ⟨_, rfl⟩
  have en2 : (b.k == 0) = n2 := by rw [← hn2.out]; by_cases h : b.k = 0 <;> simp [h]
  have hn : Hid (nullV a b = (n1 || n2)) := by show _ = _; rw [nullV, hn1.out, hn2.out]
  have hn0 : Hid (reckV a b (a.n - b.n) = if (n1 || n2) = true then (v0, 0) else rkV (a.n - b.n)) := by show _ = _; rw [← hn.out, reckV]; rfl
  have ra := may_rng ha
  have rb := may_rng hb
  have CR := Lib.hid (fun W => refReckon3_any a.n b.n W ra rb)
  obtain ⟨rk, hrk⟩ : ∃ rk, Hid (rkV (a.n - b.n) = rk) := ⟨_, rfl⟩
  rw [hrk.out] at CR hn0
  obtain ⟨rv, re⟩ := rk
  dsimp only at CR
  clear ra rb hrk
  obtain ⟨w1, hw1⟩ : ∃ w1, w1 = (((w.alloc (valBox a)).alloc (valBox b)).alloc (valBox v0)) := ⟨_, rfl⟩
  have HW := Lib.hid hw1
  have R0 : Hid (w1.heap[w.heap.size]? = some (valBox a)) := by rw [hw1]; exact old_row _ (old_row _ (new_row _ _ rfl))
  have R1 : Hid (w1.heap[w.heap.size + 1]? = some (valBox b)) := by rw [hw1]; exact old_row _ (new_row _ _ (by simp only [World.size_alloc]))
  have R2 : Hid (w1.heap[w.heap.size + 1 + 1]? = some (valBox v0)) := by rw [hw1]; exact new_row _ _ (by simp only [World.size_alloc])
  have HB : Hid (Below w.heap.size w w1) := by rw [hw1]; exact below_new (below_new (below_new (Below.refl _ _) _) _) _
  have SZ : Hid (w1.heap.size = w.heap.size + 1 + 1 + 1) := by show _ = _; rw [hw1]; simp only [World.size_alloc]
  obtain ⟨p0_0, p0_1, p0_2⟩ := valB_row R0.out
  obtain ⟨p1_0, p1_1, p1_2⟩ := valB_row R1.out
  obtain ⟨p2_0, p2_1, p2_2⟩ := valB_row R2.out
  clear hw1
  clear ha hb hq
  go_enter Try.func62, Try.ntmps62
  go_upto_region 1 with fail
  rw [show (((w.alloc (valBox a)).alloc (valBox b)).alloc (valBox v0)) = w1 from HW.out.symm]
  clear HW
  go_wp2_with fail
  refine (CG.out _).mono ?_
  rintro r2 w2 ⟨rfl, b2⟩
  have HB2 := Lib.hid (below_then HB.out b2)
  have X2 := Lib.hid (row_below R0.out b2); have Y2 := Lib.hid (row_below R1.out b2); have Z2 := Lib.hid (row_below R2.out b2)
  clear b2 p0_0 p0_1 p0_2 p1_0 p1_1 p1_2 p2_0 p2_1 p2_2 R0 R1 R2 HB SZ CG
  obtain ⟨p0_0, p0_1, p0_2⟩ := valB_row X2.out
  obtain ⟨p1_0, p1_1, p1_2⟩ := valB_row Y2.out
  obtain ⟨p2_0, p2_1, p2_2⟩ := valB_row Z2.out
  have f0 := frozen_row Z2.out
  cases q with
  | false =>
    go_wp2_with fail
    refine bodyPost_ret (v := .tuple #[(v0).agg, .int .i64 6]) (results_row_tmp rfl _ _ (w.heap.size + 1 + 1) 23 _ (0, 0) _ rfl (set3 Z2.out) Try.underlying23 rfl (by kernel_rfl) rfl) rfl ?_
    exact ⟨rfl, below_set3 HB2.out (by omega)⟩
  | true =>
    cases n1 with
    | true =>
      have hr : Hid (saysO 3 a b = (v0, 0)) := by show _ = _; rw [S.out, hn0.out]; rfl
      go_wp2_with fail
      refine bodyPost_ret (v := .tuple #[(v0).agg, .int .i64 0]) (results_row_tmp rfl _ _ (w.heap.size + 1 + 1) 23 _ (0, 0) _ rfl (set3 Z2.out) Try.underlying23 rfl (by kernel_rfl) rfl) rfl ?_
      exact ⟨by rw [hr.out], below_set3 HB2.out (by omega)⟩
    | false =>
      cases n2 with
      | true =>
        have hr : Hid (saysO 3 a b = (v0, 0)) := by show _ = _; rw [S.out, hn0.out]; rfl
        go_wp2_with fail
        refine bodyPost_ret (v := .tuple #[(v0).agg, .int .i64 0]) (results_row_tmp rfl _ _ (w.heap.size + 1 + 1) 23 _ (0, 0) _ rfl (set3 Z2.out) Try.underlying23 rfl (by kernel_rfl) rfl) rfl ?_
        exact ⟨by rw [hr.out], below_set3 HB2.out (by omega)⟩
      | false =>
        have hr : Hid (saysO 3 a b = (rv, re)) := by show _ = _; rw [S.out, hn0.out]; rfl
        go_wp2_with fail
        all_goals
          refine (CR.out _).mono ?_
          rintro r3 w3 ⟨rfl, b3⟩
          have HB3 := Lib.hid (below_then HB2.out b3)
          have Z3 := Lib.hid (row_below Z2.out b3)
          clear b3 p0_0 p0_1 p0_2 p1_0 p1_1 p1_2 p2_0 p2_1 p2_2 f0
          obtain ⟨z0, z1, z2⟩ := valB_row Z3.out
          have f3 := frozen_row Z3.out
          go_wp2_with fail
          refine bodyPost_ret (v := .tuple #[(rv).agg, .int .i64 re]) (results_row_tmp rfl _ _ (w.heap.size + 1 + 1) 23 _ (0, 0) _ rfl (set3 Z3.out) Try.underlying23 rfl (by kernel_rfl) rfl) rfl ?_
          exact ⟨by rw [hr.out], below_set3 HB3.out (by omega)⟩

set_option maxHeartbeats 25600000 in
theorem refSays4_any (a b : V3) (w : World) (ha : mayV a = true) (hb : mayV b = true) : Calls Try.prog 62 #[.int .i64 4, .agg #[.int .i64 a.k, .int .i64 a.n, .string a.s], .agg #[.int .i64 b.k, .int .i64 b.n, .string b.s]] w fun r w' => r = .returned (.tuple #[(if gets3 4 a.k b.k = true then saysO 4 a b else (v0, 6)).1.agg, .int .i64 (if gets3 4 a.k b.k = true then saysO 4 a b else (v0, 6)).2]) ∧ Below w.heap.size w w' := by
  obtain ⟨q, hq⟩ : ∃ q, Hid (gets3 4 a.k b.k = q) := ⟨_, rfl⟩
  have CG : Hid (∀ W, Calls Try.prog 63 #[.int .i64 4, .int .i64 a.k, .int .i64 b.k] W fun e w' => e = .returned (.bool q) ∧ Below W.heap.size W w') := fun W => by rw [← hq.out]; exact gets_any 4 a.k b.k W
  rw [hq.out]
  have S := Lib.hid (says4 a b)
  obtain ⟨n1, hn1⟩ : ∃ z, Hid (decide (a.k = 0) = z) := ⟨_, rfl⟩
  have en1 : (a.k == 0) = n1 := by rw [← hn1.out]; by_cases h : a.k = 0 <;> simp [h]
  obtain ⟨n2, hn2⟩ : ∃ z, Hid (decide (b.k = 0) = z) := ⟨_, rfl⟩
  have en2 : (b.k == 0) = n2 := by rw [← hn2.out]; by_cases h : b.k = 0 <;> simp [h]
  have hn : Hid (nullV a b = (n1 || n2)) := by show _ = _; rw [nullV, hn1.out, hn2.out]
  have hn0 : Hid (reckV a b (a.n * b.n) = if (n1 || n2) = true then (v0, 0) else rkV (a.n * b.n)) := by show _ = _; rw [← hn.out, reckV]; rfl
  have ra := may_rng ha
  have rb := may_rng hb
  have CR := Lib.hid (fun W => refReckon4_any a.n b.n W ra rb)
  obtain ⟨rk, hrk⟩ : ∃ rk, Hid (rkV (a.n * b.n) = rk) := ⟨_, rfl⟩
  rw [hrk.out] at CR hn0
  obtain ⟨rv, re⟩ := rk
  dsimp only at CR
  clear ra rb hrk
  obtain ⟨w1, hw1⟩ : ∃ w1, w1 = (((w.alloc (valBox a)).alloc (valBox b)).alloc (valBox v0)) := ⟨_, rfl⟩
  have HW := Lib.hid hw1
  have R0 : Hid (w1.heap[w.heap.size]? = some (valBox a)) := by rw [hw1]; exact old_row _ (old_row _ (new_row _ _ rfl))
  have R1 : Hid (w1.heap[w.heap.size + 1]? = some (valBox b)) := by rw [hw1]; exact old_row _ (new_row _ _ (by simp only [World.size_alloc]))
  have R2 : Hid (w1.heap[w.heap.size + 1 + 1]? = some (valBox v0)) := by rw [hw1]; exact new_row _ _ (by simp only [World.size_alloc])
  have HB : Hid (Below w.heap.size w w1) := by rw [hw1]; exact below_new (below_new (below_new (Below.refl _ _) _) _) _
  have SZ : Hid (w1.heap.size = w.heap.size + 1 + 1 + 1) := by show _ = _; rw [hw1]; simp only [World.size_alloc]
  obtain ⟨p0_0, p0_1, p0_2⟩ := valB_row R0.out
  obtain ⟨p1_0, p1_1, p1_2⟩ := valB_row R1.out
  obtain ⟨p2_0, p2_1, p2_2⟩ := valB_row R2.out
  clear hw1
  clear ha hb hq
  go_enter Try.func62, Try.ntmps62
  go_upto_region 1 with fail
  rw [show (((w.alloc (valBox a)).alloc (valBox b)).alloc (valBox v0)) = w1 from HW.out.symm]
  clear HW
  go_wp2_with fail
  refine (CG.out _).mono ?_
  rintro r2 w2 ⟨rfl, b2⟩
  have HB2 := Lib.hid (below_then HB.out b2)
  have X2 := Lib.hid (row_below R0.out b2); have Y2 := Lib.hid (row_below R1.out b2); have Z2 := Lib.hid (row_below R2.out b2)
  clear b2 p0_0 p0_1 p0_2 p1_0 p1_1 p1_2 p2_0 p2_1 p2_2 R0 R1 R2 HB SZ CG
  obtain ⟨p0_0, p0_1, p0_2⟩ := valB_row X2.out
  obtain ⟨p1_0, p1_1, p1_2⟩ := valB_row Y2.out
  obtain ⟨p2_0, p2_1, p2_2⟩ := valB_row Z2.out
  have f0 := frozen_row Z2.out
  cases q with
  | false =>
    go_wp2_with fail
    refine bodyPost_ret (v := .tuple #[(v0).agg, .int .i64 6]) (results_row_tmp rfl _ _ (w.heap.size + 1 + 1) 23 _ (0, 0) _ rfl (set3 Z2.out) Try.underlying23 rfl (by kernel_rfl) rfl) rfl ?_
    exact ⟨rfl, below_set3 HB2.out (by omega)⟩
  | true =>
    cases n1 with
    | true =>
      have hr : Hid (saysO 4 a b = (v0, 0)) := by show _ = _; rw [S.out, hn0.out]; rfl
      go_wp2_with fail
      refine bodyPost_ret (v := .tuple #[(v0).agg, .int .i64 0]) (results_row_tmp rfl _ _ (w.heap.size + 1 + 1) 23 _ (0, 0) _ rfl (set3 Z2.out) Try.underlying23 rfl (by kernel_rfl) rfl) rfl ?_
      exact ⟨by rw [hr.out], below_set3 HB2.out (by omega)⟩
    | false =>
      cases n2 with
      | true =>
        have hr : Hid (saysO 4 a b = (v0, 0)) := by show _ = _; rw [S.out, hn0.out]; rfl
        go_wp2_with fail
        refine bodyPost_ret (v := .tuple #[(v0).agg, .int .i64 0]) (results_row_tmp rfl _ _ (w.heap.size + 1 + 1) 23 _ (0, 0) _ rfl (set3 Z2.out) Try.underlying23 rfl (by kernel_rfl) rfl) rfl ?_
        exact ⟨by rw [hr.out], below_set3 HB2.out (by omega)⟩
      | false =>
        have hr : Hid (saysO 4 a b = (rv, re)) := by show _ = _; rw [S.out, hn0.out]; rfl
        go_wp2_with fail
        all_goals
          refine (CR.out _).mono ?_
          rintro r3 w3 ⟨rfl, b3⟩
          have HB3 := Lib.hid (below_then HB2.out b3)
          have Z3 := Lib.hid (row_below Z2.out b3)
          clear b3 p0_0 p0_1 p0_2 p1_0 p1_1 p1_2 p2_0 p2_1 p2_2 f0
          obtain ⟨z0, z1, z2⟩ := valB_row Z3.out
          have f3 := frozen_row Z3.out
          go_wp2_with fail
          refine bodyPost_ret (v := .tuple #[(rv).agg, .int .i64 re]) (results_row_tmp rfl _ _ (w.heap.size + 1 + 1) 23 _ (0, 0) _ rfl (set3 Z3.out) Try.underlying23 rfl (by kernel_rfl) rfl) rfl ?_
          exact ⟨by rw [hr.out], below_set3 HB3.out (by omega)⟩
end Go.Proofs.Ytkpkkkmokgmhfaa
