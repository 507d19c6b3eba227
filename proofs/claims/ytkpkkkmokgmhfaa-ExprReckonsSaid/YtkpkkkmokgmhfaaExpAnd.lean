/- Layer 12: and, or. -/
import Derived.Test.YtkpkkkmokgmhfaaExpRk
namespace Go.Proofs.Ytkpkkkmokgmhfaa
set_option maxRecDepth 100000
open Go.RowKit Go.MapKept

set_option maxHeartbeats 12800000 in
theorem and12_any (x y : V3) (w : World) (hx : mayV x = true) (hy : mayV y = true) : Calls Try.prog 53 #[x.agg, y.agg] w fun e w' => e = .returned (.tuple #[(saysO 7 x y).1.agg, .int .i64 (saysO 7 x y).2]) ∧ Below w.heap.size w w' := by
  obtain ⟨w1, hw1⟩ : ∃ w1, w1 = (((w.alloc (valBox x)).alloc (valBox y)).alloc (valBox v0)) := ⟨_, rfl⟩
  have HW := Lib.hid hw1
  have R0 : Hid (w1.heap[w.heap.size]? = some (valBox x)) := by rw [hw1]; exact old_row _ (old_row _ (new_row _ _ rfl))
  have R1 : Hid (w1.heap[w.heap.size + 1]? = some (valBox y)) := by rw [hw1]; exact old_row _ (new_row _ _ (by simp only [World.size_alloc]))
  have R2 : Hid (w1.heap[w.heap.size + 1 + 1]? = some (valBox v0)) := by rw [hw1]; exact new_row _ _ (by simp only [World.size_alloc])
  have HB : Hid (Below w.heap.size w w1) := by rw [hw1]; exact below_new (below_new (below_new (Below.refl _ _) _) _) _
  have SZ : Hid (w1.heap.size = w.heap.size + 1 + 1 + 1) := by show _ = _; rw [hw1]; simp only [World.size_alloc]
  obtain ⟨p0_0, p0_1, p0_2⟩ := valB_row R0.out
  obtain ⟨p1_0, p1_1, p1_2⟩ := valB_row R1.out
  obtain ⟨p2_0, p2_1, p2_2⟩ := valB_row R2.out
  clear hw1
  have k0_0 : ∀ p : BelowOf w1, p.W.cell? ⟨w.heap.size, 0, none⟩ = some (.int .i64 x.k) := fun p => p.cell p0_0
  have k0_1 : ∀ p : BelowOf w1, p.W.cell? ⟨w.heap.size, 1, none⟩ = some (.int .i64 x.n) := fun p => p.cell p0_1
  have k0_2 : ∀ p : BelowOf w1, p.W.cell? ⟨w.heap.size, 2, none⟩ = some (.string x.s) := fun p => p.cell p0_2
  have k1_0 : ∀ p : BelowOf w1, p.W.cell? ⟨w.heap.size + 1, 0, none⟩ = some (.int .i64 y.k) := fun p => p.cell p1_0
  have k1_1 : ∀ p : BelowOf w1, p.W.cell? ⟨w.heap.size + 1, 1, none⟩ = some (.int .i64 y.n) := fun p => p.cell p1_1
  have k1_2 : ∀ p : BelowOf w1, p.W.cell? ⟨w.heap.size + 1, 2, none⟩ = some (.string y.s) := fun p => p.cell p1_2
  obtain ⟨n1, h1⟩ : ∃ q, Hid (decide (x = v0) = q) := ⟨_, rfl⟩
  obtain ⟨n2, h2⟩ : ∃ q, Hid (decide (y = v0) = q) := ⟨_, rfl⟩
  have EN1 := fun W => run_eqV x v0 W
  have EN2 := fun W => run_eqV y v0 W
  rw [h1.out] at EN1
  rw [h2.out] at EN2
  have hn : Hid (nullV x y = (n1 || n2)) := by show _ = _; rw [nullV, null_eq hx, null_eq hy, h1.out, h2.out]
  have C := Lib.hid nothing_any
  have N := Lib.hid (fun W => number_any 0 W)
  obtain ⟨q1, g1⟩ : ∃ q, Hid (decide (x = numV 0) = q) := ⟨_, rfl⟩
  obtain ⟨q2, g2⟩ : ∃ q, Hid (decide (y = numV 0) = q) := ⟨_, rfl⟩
  have EQ1 := fun W => run_eqV x (numV 0) W
  have EQ2 := fun W => run_eqV y (numV 0) W
  rw [g1.out] at EQ1
  rw [g2.out] at EQ2
  have hno : Hid (noV x y = (q1 || q2)) := by show _ = _; rw [noV, nought_eq hx, nought_eq hy, g1.out, g2.out]
  have S := Lib.hid (says7 x y)
  clear h1 h2 g1 g2 hx hy
  cases q1 with
  | true =>
    have hr : Hid (saysO 7 x y = (truthV false, 0)) := by show _ = _; rw [S.out, hno.out]; rfl
    rw [hr.out]
    go_enter Try.func53, Try.ntmps53
    go_upto_region 1 with fail
    rw [show (((w.alloc (valBox x)).alloc (valBox y)).alloc (valBox v0)) = w1 from HW.out.symm]
    clear HW
    refine wp_region_quiet_below (by kernel_rfl) (by kernel_rfl) ?_
    repeat (with_reducible refine wpQuiet_step (fun K hK => ?_); go_simp; first | (with_reducible refine hK _ ?_; clear hK K) | (apply Exists.intro; with_reducible refine ⟨fun _ => ?_, hK _ ?_⟩; (first | (go_at_call 28; exact Calls.quiet_below (C.out _)) | (go_at_call 64; exact Calls.quiet_below (N.out _))); clear hK K))
    with_reducible refine wpQuiet_nil ?_
    rintro wq ⟨⟨_, hq⟩, rfl⟩
    have RZ2 := Lib.hid (row_below R2.out hq)
    have HB2 := Lib.hid (below_then HB.out hq)
    clear p0_0 p0_1 p0_2 p1_0 p1_1 p1_2 p2_0 p2_1 p2_2 k0_0 k0_1 k0_2 k1_0 k1_1 k1_2 EQ1 EQ2 EN1 EN2 hq
    go_wp2_with fail
    refine (number_any 0 _).mono ?_
    rintro r w9 ⟨rfl, b9⟩
    have R9 := Lib.hid (row_below RZ2.out b9)
    have HB9 := Lib.hid (below_then HB2.out b9)
    obtain ⟨z9_0, z9_1, z9_2⟩ := valB_row R9.out
    have f9 := frozen_row R9.out
    clear b9
    go_wp2_with fail
    refine bodyPost_ret (v := .tuple #[(truthV false).agg, .int .i64 0]) (results_row_tmp rfl _ _ (w.heap.size + 1 + 1) 23 _ (0, 0) _ rfl (set3 R9.out) Try.underlying23 rfl (by kernel_rfl) rfl) rfl ?_
    exact ⟨rfl, below_set3 HB9.out (by omega)⟩
  | false =>
  cases q2 with
  | true =>
    have hr : Hid (saysO 7 x y = (truthV false, 0)) := by show _ = _; rw [S.out, hno.out]; rfl
    rw [hr.out]
    go_enter Try.func53, Try.ntmps53
    go_upto_region 1 with fail
    rw [show (((w.alloc (valBox x)).alloc (valBox y)).alloc (valBox v0)) = w1 from HW.out.symm]
    clear HW
    refine wp_region_quiet_below (by kernel_rfl) (by kernel_rfl) ?_
    repeat (with_reducible refine wpQuiet_step (fun K hK => ?_); go_simp; first | (with_reducible refine hK _ ?_; clear hK K) | (apply Exists.intro; with_reducible refine ⟨fun _ => ?_, hK _ ?_⟩; (first | (go_at_call 28; exact Calls.quiet_below (C.out _)) | (go_at_call 64; exact Calls.quiet_below (N.out _))); clear hK K))
    with_reducible refine wpQuiet_nil ?_
    rintro wq ⟨⟨_, hq⟩, rfl⟩
    have RZ2 := Lib.hid (row_below R2.out hq)
    have HB2 := Lib.hid (below_then HB.out hq)
    clear p0_0 p0_1 p0_2 p1_0 p1_1 p1_2 p2_0 p2_1 p2_2 k0_0 k0_1 k0_2 k1_0 k1_1 k1_2 EQ1 EQ2 EN1 EN2 hq
    go_wp2_with fail
    refine (number_any 0 _).mono ?_
    rintro r w9 ⟨rfl, b9⟩
    have R9 := Lib.hid (row_below RZ2.out b9)
    have HB9 := Lib.hid (below_then HB2.out b9)
    obtain ⟨z9_0, z9_1, z9_2⟩ := valB_row R9.out
    have f9 := frozen_row R9.out
    clear b9
    go_wp2_with fail
    refine bodyPost_ret (v := .tuple #[(truthV false).agg, .int .i64 0]) (results_row_tmp rfl _ _ (w.heap.size + 1 + 1) 23 _ (0, 0) _ rfl (set3 R9.out) Try.underlying23 rfl (by kernel_rfl) rfl) rfl ?_
    exact ⟨rfl, below_set3 HB9.out (by omega)⟩
  | false =>
  cases n1 with
  | true =>
    have hr : Hid (saysO 7 x y = (v0, 0)) := by show _ = _; rw [S.out, hno.out, hn.out]; rfl
    rw [hr.out]
    go_enter Try.func53, Try.ntmps53
    go_upto_region 1 with fail
    rw [show (((w.alloc (valBox x)).alloc (valBox y)).alloc (valBox v0)) = w1 from HW.out.symm]
    clear HW
    refine wp_region_quiet_below (by kernel_rfl) (by kernel_rfl) ?_
    repeat (with_reducible refine wpQuiet_step (fun K hK => ?_); go_simp; first | (with_reducible refine hK _ ?_; clear hK K) | (apply Exists.intro; with_reducible refine ⟨fun _ => ?_, hK _ ?_⟩; (first | (go_at_call 28; exact Calls.quiet_below (C.out _)) | (go_at_call 64; exact Calls.quiet_below (N.out _))); clear hK K))
    with_reducible refine wpQuiet_nil ?_
    rintro wq ⟨⟨_, hq⟩, rfl⟩
    have X2 := Lib.hid (row_below R0.out hq); have Y2 := Lib.hid (row_below R1.out hq); have Z2 := Lib.hid (row_below R2.out hq)
    have HB2 := Lib.hid (below_then HB.out hq)
    clear p0_0 p0_1 p0_2 p1_0 p1_1 p1_2 p2_0 p2_1 p2_2 k0_0 k0_1 k0_2 k1_0 k1_1 k1_2 EQ1 EQ2 hq R0 R1 R2 SZ
    go_upto_region 3 with fail
    have k0_0 : ∀ p : BelowOf wq, p.W.cell? ⟨w.heap.size, 0, none⟩ = some (.int .i64 x.k) := fun p => p.cell (valB_row X2.out).1
    have k0_1 : ∀ p : BelowOf wq, p.W.cell? ⟨w.heap.size, 1, none⟩ = some (.int .i64 x.n) := fun p => p.cell (valB_row X2.out).2.1
    have k0_2 : ∀ p : BelowOf wq, p.W.cell? ⟨w.heap.size, 2, none⟩ = some (.string x.s) := fun p => p.cell (valB_row X2.out).2.2
    have k1_0 : ∀ p : BelowOf wq, p.W.cell? ⟨w.heap.size + 1, 0, none⟩ = some (.int .i64 y.k) := fun p => p.cell (valB_row Y2.out).1
    have k1_1 : ∀ p : BelowOf wq, p.W.cell? ⟨w.heap.size + 1, 1, none⟩ = some (.int .i64 y.n) := fun p => p.cell (valB_row Y2.out).2.1
    have k1_2 : ∀ p : BelowOf wq, p.W.cell? ⟨w.heap.size + 1, 2, none⟩ = some (.string y.s) := fun p => p.cell (valB_row Y2.out).2.2
    refine wp_region_quiet_below (by kernel_rfl) (by kernel_rfl) ?_
    repeat (with_reducible refine wpQuiet_step (fun K hK => ?_); go_simp; first | (with_reducible refine hK _ ?_; clear hK K) | (apply Exists.intro; with_reducible refine ⟨fun _ => ?_, hK _ ?_⟩; (first | (go_at_call 28; exact Calls.quiet_below (C.out _)) | (go_at_call 64; exact Calls.quiet_below (N.out _))); clear hK K))
    with_reducible refine wpQuiet_nil ?_
    rintro wq ⟨⟨_, hq⟩, rfl⟩
    have RZ4 := Lib.hid (row_below Z2.out hq)
    have HB4 := Lib.hid (below_then HB2.out hq)
    clear k0_0 k0_1 k0_2 k1_0 k1_1 k1_2 EN1 EN2 hq X2 Y2 Z2
    go_wp2_with fail
    refine (C.out _).mono ?_
    rintro r w9 ⟨rfl, b9⟩
    have R9 := Lib.hid (row_below RZ4.out b9)
    have HB9 := Lib.hid (below_then HB4.out b9)
    obtain ⟨z9_0, z9_1, z9_2⟩ := valB_row R9.out
    have f9 := frozen_row R9.out
    clear b9
    go_wp2_with fail
    refine bodyPost_ret (v := .tuple #[(v0).agg, .int .i64 0]) (results_row_tmp rfl _ _ (w.heap.size + 1 + 1) 23 _ (0, 0) _ rfl (set3 R9.out) Try.underlying23 rfl (by kernel_rfl) rfl) rfl ?_
    exact ⟨rfl, below_set3 HB9.out (by omega)⟩
  | false =>
  cases n2 with
  | true =>
    have hr : Hid (saysO 7 x y = (v0, 0)) := by show _ = _; rw [S.out, hno.out, hn.out]; rfl
    rw [hr.out]
    go_enter Try.func53, Try.ntmps53
    go_upto_region 1 with fail
    rw [show (((w.alloc (valBox x)).alloc (valBox y)).alloc (valBox v0)) = w1 from HW.out.symm]
    clear HW
    refine wp_region_quiet_below (by kernel_rfl) (by kernel_rfl) ?_
    repeat (with_reducible refine wpQuiet_step (fun K hK => ?_); go_simp; first | (with_reducible refine hK _ ?_; clear hK K) | (apply Exists.intro; with_reducible refine ⟨fun _ => ?_, hK _ ?_⟩; (first | (go_at_call 28; exact Calls.quiet_below (C.out _)) | (go_at_call 64; exact Calls.quiet_below (N.out _))); clear hK K))
    with_reducible refine wpQuiet_nil ?_
    rintro wq ⟨⟨_, hq⟩, rfl⟩
    have X2 := Lib.hid (row_below R0.out hq); have Y2 := Lib.hid (row_below R1.out hq); have Z2 := Lib.hid (row_below R2.out hq)
    have HB2 := Lib.hid (below_then HB.out hq)
    clear p0_0 p0_1 p0_2 p1_0 p1_1 p1_2 p2_0 p2_1 p2_2 k0_0 k0_1 k0_2 k1_0 k1_1 k1_2 EQ1 EQ2 hq R0 R1 R2 SZ
    go_upto_region 3 with fail
    have k0_0 : ∀ p : BelowOf wq, p.W.cell? ⟨w.heap.size, 0, none⟩ = some (.int .i64 x.k) := fun p => p.cell (valB_row X2.out).1
    have k0_1 : ∀ p : BelowOf wq, p.W.cell? ⟨w.heap.size, 1, none⟩ = some (.int .i64 x.n) := fun p => p.cell (valB_row X2.out).2.1
    have k0_2 : ∀ p : BelowOf wq, p.W.cell? ⟨w.heap.size, 2, none⟩ = some (.string x.s) := fun p => p.cell (valB_row X2.out).2.2
    have k1_0 : ∀ p : BelowOf wq, p.W.cell? ⟨w.heap.size + 1, 0, none⟩ = some (.int .i64 y.k) := fun p => p.cell (valB_row Y2.out).1
    have k1_1 : ∀ p : BelowOf wq, p.W.cell? ⟨w.heap.size + 1, 1, none⟩ = some (.int .i64 y.n) := fun p => p.cell (valB_row Y2.out).2.1
    have k1_2 : ∀ p : BelowOf wq, p.W.cell? ⟨w.heap.size + 1, 2, none⟩ = some (.string y.s) := fun p => p.cell (valB_row Y2.out).2.2
    refine wp_region_quiet_below (by kernel_rfl) (by kernel_rfl) ?_
    repeat (with_reducible refine wpQuiet_step (fun K hK => ?_); go_simp; first | (with_reducible refine hK _ ?_; clear hK K) | (apply Exists.intro; with_reducible refine ⟨fun _ => ?_, hK _ ?_⟩; (first | (go_at_call 28; exact Calls.quiet_below (C.out _)) | (go_at_call 64; exact Calls.quiet_below (N.out _))); clear hK K))
    with_reducible refine wpQuiet_nil ?_
    rintro wq ⟨⟨_, hq⟩, rfl⟩
    have RZ4 := Lib.hid (row_below Z2.out hq)
    have HB4 := Lib.hid (below_then HB2.out hq)
    clear k0_0 k0_1 k0_2 k1_0 k1_1 k1_2 EN1 EN2 hq X2 Y2 Z2
    go_wp2_with fail
    refine (C.out _).mono ?_
    rintro r w9 ⟨rfl, b9⟩
    have R9 := Lib.hid (row_below RZ4.out b9)
    have HB9 := Lib.hid (below_then HB4.out b9)
    obtain ⟨z9_0, z9_1, z9_2⟩ := valB_row R9.out
    have f9 := frozen_row R9.out
    clear b9
    go_wp2_with fail
    refine bodyPost_ret (v := .tuple #[(v0).agg, .int .i64 0]) (results_row_tmp rfl _ _ (w.heap.size + 1 + 1) 23 _ (0, 0) _ rfl (set3 R9.out) Try.underlying23 rfl (by kernel_rfl) rfl) rfl ?_
    exact ⟨rfl, below_set3 HB9.out (by omega)⟩
  | false =>
    have hr : Hid (saysO 7 x y = (truthV true, 0)) := by show _ = _; rw [S.out, hno.out, hn.out]; rfl
    rw [hr.out]
    go_enter Try.func53, Try.ntmps53
    go_upto_region 1 with fail
    rw [show (((w.alloc (valBox x)).alloc (valBox y)).alloc (valBox v0)) = w1 from HW.out.symm]
    clear HW
    refine wp_region_quiet_below (by kernel_rfl) (by kernel_rfl) ?_
    repeat (with_reducible refine wpQuiet_step (fun K hK => ?_); go_simp; first | (with_reducible refine hK _ ?_; clear hK K) | (apply Exists.intro; with_reducible refine ⟨fun _ => ?_, hK _ ?_⟩; (first | (go_at_call 28; exact Calls.quiet_below (C.out _)) | (go_at_call 64; exact Calls.quiet_below (N.out _))); clear hK K))
    with_reducible refine wpQuiet_nil ?_
    rintro wq ⟨⟨_, hq⟩, rfl⟩
    have X2 := Lib.hid (row_below R0.out hq); have Y2 := Lib.hid (row_below R1.out hq); have Z2 := Lib.hid (row_below R2.out hq)
    have HB2 := Lib.hid (below_then HB.out hq)
    clear p0_0 p0_1 p0_2 p1_0 p1_1 p1_2 p2_0 p2_1 p2_2 k0_0 k0_1 k0_2 k1_0 k1_1 k1_2 EQ1 EQ2 hq R0 R1 R2 SZ
    go_upto_region 3 with fail
    have k0_0 : ∀ p : BelowOf wq, p.W.cell? ⟨w.heap.size, 0, none⟩ = some (.int .i64 x.k) := fun p => p.cell (valB_row X2.out).1
    have k0_1 : ∀ p : BelowOf wq, p.W.cell? ⟨w.heap.size, 1, none⟩ = some (.int .i64 x.n) := fun p => p.cell (valB_row X2.out).2.1
    have k0_2 : ∀ p : BelowOf wq, p.W.cell? ⟨w.heap.size, 2, none⟩ = some (.string x.s) := fun p => p.cell (valB_row X2.out).2.2
    have k1_0 : ∀ p : BelowOf wq, p.W.cell? ⟨w.heap.size + 1, 0, none⟩ = some (.int .i64 y.k) := fun p => p.cell (valB_row Y2.out).1
    have k1_1 : ∀ p : BelowOf wq, p.W.cell? ⟨w.heap.size + 1, 1, none⟩ = some (.int .i64 y.n) := fun p => p.cell (valB_row Y2.out).2.1
    have k1_2 : ∀ p : BelowOf wq, p.W.cell? ⟨w.heap.size + 1, 2, none⟩ = some (.string y.s) := fun p => p.cell (valB_row Y2.out).2.2
    refine wp_region_quiet_below (by kernel_rfl) (by kernel_rfl) ?_
    repeat (with_reducible refine wpQuiet_step (fun K hK => ?_); go_simp; first | (with_reducible refine hK _ ?_; clear hK K) | (apply Exists.intro; with_reducible refine ⟨fun _ => ?_, hK _ ?_⟩; (first | (go_at_call 28; exact Calls.quiet_below (C.out _)) | (go_at_call 64; exact Calls.quiet_below (N.out _))); clear hK K))
    with_reducible refine wpQuiet_nil ?_
    rintro wq ⟨⟨_, hq⟩, rfl⟩
    have RZ4 := Lib.hid (row_below Z2.out hq)
    have HB4 := Lib.hid (below_then HB2.out hq)
    clear k0_0 k0_1 k0_2 k1_0 k1_1 k1_2 EN1 EN2 hq X2 Y2 Z2
    go_wp2_with fail
    refine (number_any 1 _).mono ?_
    rintro r w9 ⟨rfl, b9⟩
    have R9 := Lib.hid (row_below RZ4.out b9)
    have HB9 := Lib.hid (below_then HB4.out b9)
    obtain ⟨z9_0, z9_1, z9_2⟩ := valB_row R9.out
    have f9 := frozen_row R9.out
    clear b9
    go_wp2_with fail
    refine bodyPost_ret (v := .tuple #[(truthV true).agg, .int .i64 0]) (results_row_tmp rfl _ _ (w.heap.size + 1 + 1) 23 _ (0, 0) _ rfl (set3 R9.out) Try.underlying23 rfl (by kernel_rfl) rfl) rfl ?_
    exact ⟨rfl, below_set3 HB9.out (by omega)⟩

set_option maxHeartbeats 12800000 in
theorem or12_any (x y : V3) (w : World) (hx : mayV x = true) (hy : mayV y = true) : Calls Try.prog 54 #[x.agg, y.agg] w fun e w' => e = .returned (.tuple #[(saysO 8 x y).1.agg, .int .i64 (saysO 8 x y).2]) ∧ Below w.heap.size w w' := by
  obtain ⟨w1, hw1⟩ : ∃ w1, w1 = (((w.alloc (valBox x)).alloc (valBox y)).alloc (valBox v0)) := ⟨_, rfl⟩
  have HW := Lib.hid hw1
  have R0 : Hid (w1.heap[w.heap.size]? = some (valBox x)) := by rw [hw1]; exact old_row _ (old_row _ (new_row _ _ rfl))
  have R1 : Hid (w1.heap[w.heap.size + 1]? = some (valBox y)) := by rw [hw1]; exact old_row _ (new_row _ _ (by simp only [World.size_alloc]))
  have R2 : Hid (w1.heap[w.heap.size + 1 + 1]? = some (valBox v0)) := by rw [hw1]; exact new_row _ _ (by simp only [World.size_alloc])
  have HB : Hid (Below w.heap.size w w1) := by rw [hw1]; exact below_new (below_new (below_new (Below.refl _ _) _) _) _
  have SZ : Hid (w1.heap.size = w.heap.size + 1 + 1 + 1) := by show _ = _; rw [hw1]; simp only [World.size_alloc]
  obtain ⟨p0_0, p0_1, p0_2⟩ := valB_row R0.out
  obtain ⟨p1_0, p1_1, p1_2⟩ := valB_row R1.out
  obtain ⟨p2_0, p2_1, p2_2⟩ := valB_row R2.out
  clear hw1
  have k0_0 : ∀ p : BelowOf w1, p.W.cell? ⟨w.heap.size, 0, none⟩ = some (.int .i64 x.k) := fun p => p.cell p0_0
  have k0_1 : ∀ p : BelowOf w1, p.W.cell? ⟨w.heap.size, 1, none⟩ = some (.int .i64 x.n) := fun p => p.cell p0_1
  have k0_2 : ∀ p : BelowOf w1, p.W.cell? ⟨w.heap.size, 2, none⟩ = some (.string x.s) := fun p => p.cell p0_2
  have k1_0 : ∀ p : BelowOf w1, p.W.cell? ⟨w.heap.size + 1, 0, none⟩ = some (.int .i64 y.k) := fun p => p.cell p1_0
  have k1_1 : ∀ p : BelowOf w1, p.W.cell? ⟨w.heap.size + 1, 1, none⟩ = some (.int .i64 y.n) := fun p => p.cell p1_1
  have k1_2 : ∀ p : BelowOf w1, p.W.cell? ⟨w.heap.size + 1, 2, none⟩ = some (.string y.s) := fun p => p.cell p1_2
  obtain ⟨n1, h1⟩ : ∃ q, Hid (decide (x = v0) = q) := ⟨_, rfl⟩
  obtain ⟨n2, h2⟩ : ∃ q, Hid (decide (y = v0) = q) := ⟨_, rfl⟩
  have EN1 := fun W => run_eqV x v0 W
  have EN2 := fun W => run_eqV y v0 W
  rw [h1.out] at EN1
  rw [h2.out] at EN2
  have hn : Hid (nullV x y = (n1 || n2)) := by show _ = _; rw [nullV, null_eq hx, null_eq hy, h1.out, h2.out]
  have C := Lib.hid nothing_any
  have N := Lib.hid (fun W => number_any 0 W)
  obtain ⟨q1, g1⟩ : ∃ q, Hid (decide (x.n = 0) = q) := ⟨_, rfl⟩
  obtain ⟨q2, g2⟩ : ∃ q, Hid (decide (y.n = 0) = q) := ⟨_, rfl⟩
  have e1 : (x.n == 0) = q1 := by rw [← g1.out]; by_cases h : x.n = 0 <;> simp [h]
  have e2 : (y.n == 0) = q2 := by rw [← g2.out]; by_cases h : y.n = 0 <;> simp [h]
  have e3 : (x.n != 0) = !q1 := by rw [bne, e1]
  have e4 : (y.n != 0) = !q2 := by rw [bne, e2]
  have hno : Hid (yesV x y = (!q1 || !q2)) := by show _ = _; rw [yesV, yes_eq hx, yes_eq hy, g1.out, g2.out]
  have S := Lib.hid (says8 x y)
  clear h1 h2 g1 g2 hx hy
  cases q1 with
  | false =>
    have hr : Hid (saysO 8 x y = (truthV true, 0)) := by show _ = _; rw [S.out, hno.out]; rfl
    rw [hr.out]
    clear k0_0 k0_1 k0_2 k1_0 k1_1 k1_2 EN1 EN2
    have RZ2 := R2
    have HB2 := HB
    go_enter Try.func54, Try.ntmps54
    go_upto_region 1 with fail
    rw [show (((w.alloc (valBox x)).alloc (valBox y)).alloc (valBox v0)) = w1 from HW.out.symm]
    clear HW
    go_wp2_with fail
    clear p0_0 p0_1 p0_2 p1_0 p1_1 p1_2 p2_0 p2_1 p2_2 e1 e2 e3 e4
    refine (number_any 1 _).mono ?_
    rintro r w9 ⟨rfl, b9⟩
    have R9 := Lib.hid (row_below RZ2.out b9)
    have HB9 := Lib.hid (below_then HB2.out b9)
    obtain ⟨z9_0, z9_1, z9_2⟩ := valB_row R9.out
    have f9 := frozen_row R9.out
    clear b9
    go_wp2_with fail
    refine bodyPost_ret (v := .tuple #[(truthV true).agg, .int .i64 0]) (results_row_tmp rfl _ _ (w.heap.size + 1 + 1) 23 _ (0, 0) _ rfl (set3 R9.out) Try.underlying23 rfl (by kernel_rfl) rfl) rfl ?_
    exact ⟨rfl, below_set3 HB9.out (by omega)⟩
  | true =>
  cases q2 with
  | false =>
    have hr : Hid (saysO 8 x y = (truthV true, 0)) := by show _ = _; rw [S.out, hno.out]; rfl
    rw [hr.out]
    clear k0_0 k0_1 k0_2 k1_0 k1_1 k1_2 EN1 EN2
    have RZ2 := R2
    have HB2 := HB
    go_enter Try.func54, Try.ntmps54
    go_upto_region 1 with fail
    rw [show (((w.alloc (valBox x)).alloc (valBox y)).alloc (valBox v0)) = w1 from HW.out.symm]
    clear HW
    go_wp2_with fail
    clear p0_0 p0_1 p0_2 p1_0 p1_1 p1_2 p2_0 p2_1 p2_2 e1 e2 e3 e4
    refine (number_any 1 _).mono ?_
    rintro r w9 ⟨rfl, b9⟩
    have R9 := Lib.hid (row_below RZ2.out b9)
    have HB9 := Lib.hid (below_then HB2.out b9)
    obtain ⟨z9_0, z9_1, z9_2⟩ := valB_row R9.out
    have f9 := frozen_row R9.out
    clear b9
    go_wp2_with fail
    refine bodyPost_ret (v := .tuple #[(truthV true).agg, .int .i64 0]) (results_row_tmp rfl _ _ (w.heap.size + 1 + 1) 23 _ (0, 0) _ rfl (set3 R9.out) Try.underlying23 rfl (by kernel_rfl) rfl) rfl ?_
    exact ⟨rfl, below_set3 HB9.out (by omega)⟩
  | true =>
  cases n1 with
  | true =>
    have hr : Hid (saysO 8 x y = (v0, 0)) := by show _ = _; rw [S.out, hno.out, hn.out]; rfl
    rw [hr.out]
    go_enter Try.func54, Try.ntmps54
    go_upto_region 1 with fail
    rw [show (((w.alloc (valBox x)).alloc (valBox y)).alloc (valBox v0)) = w1 from HW.out.symm]
    clear HW
    have X2 := R0; have Y2 := R1; have Z2 := R2
    have HB2 := HB
    clear k0_0 k0_1 k0_2 k1_0 k1_1 k1_2 R0 R1 R2 SZ
    go_upto_region 3 with fail
    clear e1 e2 e3 e4 p0_0 p0_1 p0_2 p1_0 p1_1 p1_2 p2_0 p2_1 p2_2
    have k0_0 : ∀ p : BelowOf w1, p.W.cell? ⟨w.heap.size, 0, none⟩ = some (.int .i64 x.k) := fun p => p.cell (valB_row X2.out).1
    have k0_1 : ∀ p : BelowOf w1, p.W.cell? ⟨w.heap.size, 1, none⟩ = some (.int .i64 x.n) := fun p => p.cell (valB_row X2.out).2.1
    have k0_2 : ∀ p : BelowOf w1, p.W.cell? ⟨w.heap.size, 2, none⟩ = some (.string x.s) := fun p => p.cell (valB_row X2.out).2.2
    have k1_0 : ∀ p : BelowOf w1, p.W.cell? ⟨w.heap.size + 1, 0, none⟩ = some (.int .i64 y.k) := fun p => p.cell (valB_row Y2.out).1
    have k1_1 : ∀ p : BelowOf w1, p.W.cell? ⟨w.heap.size + 1, 1, none⟩ = some (.int .i64 y.n) := fun p => p.cell (valB_row Y2.out).2.1
    have k1_2 : ∀ p : BelowOf w1, p.W.cell? ⟨w.heap.size + 1, 2, none⟩ = some (.string y.s) := fun p => p.cell (valB_row Y2.out).2.2
    refine wp_region_quiet_below (by kernel_rfl) (by kernel_rfl) ?_
    repeat (with_reducible refine wpQuiet_step (fun K hK => ?_); go_simp; first | (with_reducible refine hK _ ?_; clear hK K) | (apply Exists.intro; with_reducible refine ⟨fun _ => ?_, hK _ ?_⟩; (first | (go_at_call 28; exact Calls.quiet_below (C.out _)) | (go_at_call 64; exact Calls.quiet_below (N.out _))); clear hK K))
    with_reducible refine wpQuiet_nil ?_
    rintro wq ⟨⟨_, hq⟩, rfl⟩
    have RZ4 := Lib.hid (row_below Z2.out hq)
    have HB4 := Lib.hid (below_then HB2.out hq)
    clear k0_0 k0_1 k0_2 k1_0 k1_1 k1_2 EN1 EN2 hq X2 Y2 Z2
    go_wp2_with fail
    refine (C.out _).mono ?_
    rintro r w9 ⟨rfl, b9⟩
    have R9 := Lib.hid (row_below RZ4.out b9)
    have HB9 := Lib.hid (below_then HB4.out b9)
    obtain ⟨z9_0, z9_1, z9_2⟩ := valB_row R9.out
    have f9 := frozen_row R9.out
    clear b9
    go_wp2_with fail
    refine bodyPost_ret (v := .tuple #[(v0).agg, .int .i64 0]) (results_row_tmp rfl _ _ (w.heap.size + 1 + 1) 23 _ (0, 0) _ rfl (set3 R9.out) Try.underlying23 rfl (by kernel_rfl) rfl) rfl ?_
    exact ⟨rfl, below_set3 HB9.out (by omega)⟩
  | false =>
  cases n2 with
  | true =>
    have hr : Hid (saysO 8 x y = (v0, 0)) := by show _ = _; rw [S.out, hno.out, hn.out]; rfl
    rw [hr.out]
    go_enter Try.func54, Try.ntmps54
    go_upto_region 1 with fail
    rw [show (((w.alloc (valBox x)).alloc (valBox y)).alloc (valBox v0)) = w1 from HW.out.symm]
    clear HW
    have X2 := R0; have Y2 := R1; have Z2 := R2
    have HB2 := HB
    clear k0_0 k0_1 k0_2 k1_0 k1_1 k1_2 R0 R1 R2 SZ
    go_upto_region 3 with fail
    clear e1 e2 e3 e4 p0_0 p0_1 p0_2 p1_0 p1_1 p1_2 p2_0 p2_1 p2_2
    have k0_0 : ∀ p : BelowOf w1, p.W.cell? ⟨w.heap.size, 0, none⟩ = some (.int .i64 x.k) := fun p => p.cell (valB_row X2.out).1
    have k0_1 : ∀ p : BelowOf w1, p.W.cell? ⟨w.heap.size, 1, none⟩ = some (.int .i64 x.n) := fun p => p.cell (valB_row X2.out).2.1
    have k0_2 : ∀ p : BelowOf w1, p.W.cell? ⟨w.heap.size, 2, none⟩ = some (.string x.s) := fun p => p.cell (valB_row X2.out).2.2
    have k1_0 : ∀ p : BelowOf w1, p.W.cell? ⟨w.heap.size + 1, 0, none⟩ = some (.int .i64 y.k) := fun p => p.cell (valB_row Y2.out).1
    have k1_1 : ∀ p : BelowOf w1, p.W.cell? ⟨w.heap.size + 1, 1, none⟩ = some (.int .i64 y.n) := fun p => p.cell (valB_row Y2.out).2.1
    have k1_2 : ∀ p : BelowOf w1, p.W.cell? ⟨w.heap.size + 1, 2, none⟩ = some (.string y.s) := fun p => p.cell (valB_row Y2.out).2.2
    refine wp_region_quiet_below (by kernel_rfl) (by kernel_rfl) ?_
    repeat (with_reducible refine wpQuiet_step (fun K hK => ?_); go_simp; first | (with_reducible refine hK _ ?_; clear hK K) | (apply Exists.intro; with_reducible refine ⟨fun _ => ?_, hK _ ?_⟩; (first | (go_at_call 28; exact Calls.quiet_below (C.out _)) | (go_at_call 64; exact Calls.quiet_below (N.out _))); clear hK K))
    with_reducible refine wpQuiet_nil ?_
    rintro wq ⟨⟨_, hq⟩, rfl⟩
    have RZ4 := Lib.hid (row_below Z2.out hq)
    have HB4 := Lib.hid (below_then HB2.out hq)
    clear k0_0 k0_1 k0_2 k1_0 k1_1 k1_2 EN1 EN2 hq X2 Y2 Z2
    go_wp2_with fail
    refine (C.out _).mono ?_
    rintro r w9 ⟨rfl, b9⟩
    have R9 := Lib.hid (row_below RZ4.out b9)
    have HB9 := Lib.hid (below_then HB4.out b9)
    obtain ⟨z9_0, z9_1, z9_2⟩ := valB_row R9.out
    have f9 := frozen_row R9.out
    clear b9
    go_wp2_with fail
    refine bodyPost_ret (v := .tuple #[(v0).agg, .int .i64 0]) (results_row_tmp rfl _ _ (w.heap.size + 1 + 1) 23 _ (0, 0) _ rfl (set3 R9.out) Try.underlying23 rfl (by kernel_rfl) rfl) rfl ?_
    exact ⟨rfl, below_set3 HB9.out (by omega)⟩
  | false =>
    have hr : Hid (saysO 8 x y = (truthV false, 0)) := by show _ = _; rw [S.out, hno.out, hn.out]; rfl
    rw [hr.out]
    go_enter Try.func54, Try.ntmps54
    go_upto_region 1 with fail
    rw [show (((w.alloc (valBox x)).alloc (valBox y)).alloc (valBox v0)) = w1 from HW.out.symm]
    clear HW
    have X2 := R0; have Y2 := R1; have Z2 := R2
    have HB2 := HB
    clear k0_0 k0_1 k0_2 k1_0 k1_1 k1_2 R0 R1 R2 SZ
    go_upto_region 3 with fail
    clear e1 e2 e3 e4 p0_0 p0_1 p0_2 p1_0 p1_1 p1_2 p2_0 p2_1 p2_2
    have k0_0 : ∀ p : BelowOf w1, p.W.cell? ⟨w.heap.size, 0, none⟩ = some (.int .i64 x.k) := fun p => p.cell (valB_row X2.out).1
    have k0_1 : ∀ p : BelowOf w1, p.W.cell? ⟨w.heap.size, 1, none⟩ = some (.int .i64 x.n) := fun p => p.cell (valB_row X2.out).2.1
    have k0_2 : ∀ p : BelowOf w1, p.W.cell? ⟨w.heap.size, 2, none⟩ = some (.string x.s) := fun p => p.cell (valB_row X2.out).2.2
    have k1_0 : ∀ p : BelowOf w1, p.W.cell? ⟨w.heap.size + 1, 0, none⟩ = some (.int .i64 y.k) := fun p => p.cell (valB_row Y2.out).1
    have k1_1 : ∀ p : BelowOf w1, p.W.cell? ⟨w.heap.size + 1, 1, none⟩ = some (.int .i64 y.n) := fun p => p.cell (valB_row Y2.out).2.1
    have k1_2 : ∀ p : BelowOf w1, p.W.cell? ⟨w.heap.size + 1, 2, none⟩ = some (.string y.s) := fun p => p.cell (valB_row Y2.out).2.2
    refine wp_region_quiet_below (by kernel_rfl) (by kernel_rfl) ?_
    repeat (with_reducible refine wpQuiet_step (fun K hK => ?_); go_simp; first | (with_reducible refine hK _ ?_; clear hK K) | (apply Exists.intro; with_reducible refine ⟨fun _ => ?_, hK _ ?_⟩; (first | (go_at_call 28; exact Calls.quiet_below (C.out _)) | (go_at_call 64; exact Calls.quiet_below (N.out _))); clear hK K))
    with_reducible refine wpQuiet_nil ?_
    rintro wq ⟨⟨_, hq⟩, rfl⟩
    have RZ4 := Lib.hid (row_below Z2.out hq)
    have HB4 := Lib.hid (below_then HB2.out hq)
    clear k0_0 k0_1 k0_2 k1_0 k1_1 k1_2 EN1 EN2 hq X2 Y2 Z2
    go_wp2_with fail
    refine (number_any 0 _).mono ?_
    rintro r w9 ⟨rfl, b9⟩
    have R9 := Lib.hid (row_below RZ4.out b9)
    have HB9 := Lib.hid (below_then HB4.out b9)
    obtain ⟨z9_0, z9_1, z9_2⟩ := valB_row R9.out
    have f9 := frozen_row R9.out
    clear b9
    go_wp2_with fail
    refine bodyPost_ret (v := .tuple #[(truthV false).agg, .int .i64 0]) (results_row_tmp rfl _ _ (w.heap.size + 1 + 1) 23 _ (0, 0) _ rfl (set3 R9.out) Try.underlying23 rfl (by kernel_rfl) rfl) rfl ?_
    exact ⟨rfl, below_set3 HB9.out (by omega)⟩
end Go.Proofs.Ytkpkkkmokgmhfaa
