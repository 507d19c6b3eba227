/- Layer 12: not, nothing; what each operator says. -/
import Derived.Test.YtkpkkkmokgmhfaaExpAnd
namespace Go.Proofs.Ytkpkkkmokgmhfaa
set_option maxRecDepth 100000
open Go.RowKit Go.MapKept

set_option maxHeartbeats 12800000 in
theorem not12_any (x y : V3) (w : World) (hx : mayV x = true) (ht : x.k = 0 ∨ x.k = 1) : Calls Try.prog 55 #[x.agg, y.agg] w fun e w' => e = .returned (.tuple #[(saysO 9 x y).1.agg, .int .i64 (saysO 9 x y).2]) ∧ Below w.heap.size w w' := by
  obtain ⟨w1, hw1⟩ : ∃ w1, w1 = (((w.alloc (valBox x)).alloc (valBox y)).alloc (valBox v0)) := ⟨_, rfl⟩
  have HW := Lib.hid hw1
  have R0 : Hid (w1.heap[w.heap.size]? = some (valBox x)) := by rw [hw1]; exact old_row _ (old_row _ (new_row _ _ rfl))
  have R1 : Hid (w1.heap[w.heap.size + 1]? = some (valBox y)) := by rw [hw1]; exact old_row _ (new_row _ _ (by simp only [World.size_alloc]))
  have R2 : Hid (w1.heap[w.heap.size + 1 + 1]? = some (valBox v0)) := by rw [hw1]; exact new_row _ _ (by simp only [World.size_alloc])
  have HB : Hid (Below w.heap.size w w1) := by rw [hw1]; exact below_new (below_new (below_new (Below.refl _ _) _) _) _
  have SZ : Hid (w1.heap.size = w.heap.size + 1 + 1 + 1) := by show _ = _; rw [hw1]; simp only [World.size_alloc]
  obtain ⟨p0_0, p0_1, p0_2⟩ := valB_row R0.out
  obtain ⟨p1_0, p1_1, p1_2⟩ := valB_row R1.out
  obtain ⟨p2_0, p2_1, p2_2⟩ := valB_row R2.out
  clear hw1
  have k0_0 : ∀ p : BelowOf w1, p.W.cell? ⟨w.heap.size, 0, none⟩ = some (.int .i64 x.k) := fun p => p.cell p0_0
  have k0_1 : ∀ p : BelowOf w1, p.W.cell? ⟨w.heap.size, 1, none⟩ = some (.int .i64 x.n) := fun p => p.cell p0_1
  have k0_2 : ∀ p : BelowOf w1, p.W.cell? ⟨w.heap.size, 2, none⟩ = some (.string x.s) := fun p => p.cell p0_2
  obtain ⟨n1, h1⟩ : ∃ q, Hid (decide (x = v0) = q) := ⟨_, rfl⟩
  have EN1 := fun W => run_eqV x v0 W
  rw [h1.out] at EN1
  have hn : Hid (decide (x.k = 0) = n1) := by show _ = _; rw [null_eq hx, h1.out]
  obtain ⟨q1, g1⟩ : ∃ q, Hid (decide (x = numV 0) = q) := ⟨_, rfl⟩
  have EQ1 := fun W => run_eqV x (numV 0) W
  rw [g1.out] at EQ1
  have C := Lib.hid nothing_any
  have N := Lib.hid (fun W => number_any 0 W)
  have T := Lib.hid (fun W => truth_any q1 W)
  have hno : Hid (x.k ≠ 0 → decide (x.n = 0) = q1) := by
    show x.k ≠ 0 → _
    intro h
    have h3 : x.k = 1 := ht.resolve_left h
    rw [← g1.out, ← nought_eq hx, h3]; rfl
  have S := Lib.hid (says9 x y)
  clear h1 g1 hx ht
  cases n1 with
  | true =>
    have hr : Hid (saysO 9 x y = (v0, 0)) := by show _ = _; rw [S.out, if_pos (of_decide_eq_true hn.out)]
    rw [hr.out]
    go_enter Try.func55, Try.ntmps55
    go_upto_region 1 with fail
    rw [show (((w.alloc (valBox x)).alloc (valBox y)).alloc (valBox v0)) = w1 from HW.out.symm]
    clear HW
    refine wp_region_quiet_below (by kernel_rfl) (by kernel_rfl) ?_
    repeat (with_reducible refine wpQuiet_step (fun K hK => ?_); go_simp; first | (with_reducible refine hK _ ?_; clear hK K) | (apply Exists.intro; with_reducible refine ⟨fun _ => ?_, hK _ ?_⟩; (first | (go_at_call 28; exact Calls.quiet_below (C.out _)) | (go_at_call 64; exact Calls.quiet_below (N.out _))); clear hK K))
    with_reducible refine wpQuiet_nil ?_
    rintro wq ⟨⟨_, hq⟩, rfl⟩
    have RZ2 := Lib.hid (row_below R2.out hq)
    have HB2 := Lib.hid (below_then HB.out hq)
    clear p0_0 p0_1 p0_2 p1_0 p1_1 p1_2 p2_0 p2_1 p2_2 k0_0 k0_1 k0_2 EQ1 EN1 hq
    go_wp2_with fail
    refine (C.out _).mono ?_
    rintro r w9 ⟨rfl, b9⟩
    have R9 := Lib.hid (row_below RZ2.out b9)
    have HB9 := Lib.hid (below_then HB2.out b9)
    obtain ⟨z9_0, z9_1, z9_2⟩ := valB_row R9.out
    have f9 := frozen_row R9.out
    clear b9
    go_wp2_with fail
    refine bodyPost_ret (v := .tuple #[(v0).agg, .int .i64 0]) (results_row_tmp rfl _ _ (w.heap.size + 1 + 1) 23 _ (0, 0) _ rfl (set3 R9.out) Try.underlying23 rfl (by kernel_rfl) rfl) rfl ?_
    exact ⟨rfl, below_set3 HB9.out (by omega)⟩
  | false =>
    have hr : Hid (saysO 9 x y = (truthV q1, 0)) := by show _ = _; rw [S.out, if_neg (of_decide_eq_false hn.out), hno.out (of_decide_eq_false hn.out)]
    rw [hr.out]
    go_enter Try.func55, Try.ntmps55
    go_upto_region 1 with fail
    rw [show (((w.alloc (valBox x)).alloc (valBox y)).alloc (valBox v0)) = w1 from HW.out.symm]
    clear HW
    refine wp_region_quiet_below (by kernel_rfl) (by kernel_rfl) ?_
    repeat (with_reducible refine wpQuiet_step (fun K hK => ?_); go_simp; first | (with_reducible refine hK _ ?_; clear hK K) | (apply Exists.intro; with_reducible refine ⟨fun _ => ?_, hK _ ?_⟩; (first | (go_at_call 28; exact Calls.quiet_below (C.out _)) | (go_at_call 64; exact Calls.quiet_below (N.out _))); clear hK K))
    with_reducible refine wpQuiet_nil ?_
    rintro wq ⟨⟨_, hq⟩, rfl⟩
    have X2 := Lib.hid (row_below R0.out hq)
    have RZ2 := Lib.hid (row_below R2.out hq)
    have HB2 := Lib.hid (below_then HB.out hq)
    clear p0_0 p0_1 p0_2 p1_0 p1_1 p1_2 p2_0 p2_1 p2_2 k0_0 k0_1 k0_2 EN1 hq HB R0 R1 R2 SZ
    go_upto_region 3 with fail
    have hS0 : Below w.heap.size w wq ∧ wq.cell? ⟨w.heap.size, 0, none⟩ = some (.int .i64 x.k) ∧ wq.cell? ⟨w.heap.size, 1, none⟩ = some (.int .i64 x.n) ∧ wq.cell? ⟨w.heap.size, 2, none⟩ = some (.string x.s) := ⟨HB2.out, (valB_row X2.out).1, (valB_row X2.out).2.1, (valB_row X2.out).2.2⟩
    have K : Hid (∀ W W' : World, (Below w.heap.size w W ∧ W.cell? ⟨w.heap.size, 0, none⟩ = some (.int .i64 x.k) ∧ W.cell? ⟨w.heap.size, 1, none⟩ = some (.int .i64 x.n) ∧ W.cell? ⟨w.heap.size, 2, none⟩ = some (.string x.s)) → Below W.heap.size W W' → (Below w.heap.size w W' ∧ W'.cell? ⟨w.heap.size, 0, none⟩ = some (.int .i64 x.k) ∧ W'.cell? ⟨w.heap.size, 1, none⟩ = some (.int .i64 x.n) ∧ W'.cell? ⟨w.heap.size, 2, none⟩ = some (.string x.s))) := by
      rintro W W' ⟨k0, k1, k2, k3⟩ hb
      have hc : ∀ (p : Addr) (y : Value), W.cell? p = some y → W'.cell? p = some y := fun p y h2 => (hb.cell (World.block_lt_of_cell? _ _ h2)).trans h2
      exact ⟨below_then k0 hb, hc _ _ k1, hc _ _ k2, hc _ _ k3⟩
    have K2 : Hid (∀ (W : World) (j : Nat) (z : Value), (Below w.heap.size w W ∧ W.cell? ⟨w.heap.size, 0, none⟩ = some (.int .i64 x.k) ∧ W.cell? ⟨w.heap.size, 1, none⟩ = some (.int .i64 x.n) ∧ W.cell? ⟨w.heap.size, 2, none⟩ = some (.string x.s)) → (Below w.heap.size w (W.setCell ⟨w.heap.size + 1 + 1, j, none⟩ z) ∧ (W.setCell ⟨w.heap.size + 1 + 1, j, none⟩ z).cell? ⟨w.heap.size, 0, none⟩ = some (.int .i64 x.k) ∧ (W.setCell ⟨w.heap.size + 1 + 1, j, none⟩ z).cell? ⟨w.heap.size, 1, none⟩ = some (.int .i64 x.n) ∧ (W.setCell ⟨w.heap.size + 1 + 1, j, none⟩ z).cell? ⟨w.heap.size, 2, none⟩ = some (.string x.s))) := by
      rintro W j z ⟨k0, k1, k2, k3⟩
      have hc : ∀ i, (W.setCell ⟨w.heap.size + 1 + 1, j, none⟩ z).cell? ⟨w.heap.size, i, none⟩ = W.cell? ⟨w.heap.size, i, none⟩ := fun i => World.cell?_setCell_far _ _ _ _ (by show w.heap.size + 1 + 1 ≠ w.heap.size; omega)
      exact ⟨k0.setCell (show w.heap.size ≤ w.heap.size + 1 + 1 by omega) _, (hc 0).trans k1, (hc 1).trans k2, (hc 2).trans k3⟩
    have HZ := RZ2
    go_region_held3 (fun W => Below w.heap.size w W ∧ W.cell? ⟨w.heap.size, 0, none⟩ = some (.int .i64 x.k) ∧ W.cell? ⟨w.heap.size, 1, none⟩ = some (.int .i64 x.n) ∧ W.cell? ⟨w.heap.size, 2, none⟩ = some (.string x.s))
      (first
        | with_reducible exact K.out _ _ hS0 ((Below.refl _ _).drew)
        | with_reducible exact K.out _ _ (by assumption) bb
        | with_reducible assumption
        | with_reducible exact K2.out _ _ _ (K2.out _ _ _ (K2.out _ _ _ (by assumption)))
        | fail "S?")
      (first
        | (go_at_call 64
           refine (N.out _).mono ?_
           rintro e wx ⟨rfl, bb⟩
           first
           | replace HZ := Lib.hid (row_below HZ.out bb)
           | replace HZ := Lib.hid (row_below (row_drew HZ.out) bb)
           (try (obtain ⟨z0, z1, z2⟩ := valB_row HZ.out; have f0 := frozen_row HZ.out)))
        | (go_at_call 69
           refine (T.out _).mono ?_
           rintro e wx ⟨rfl, bb⟩
           first
           | replace HZ := Lib.hid (row_below HZ.out bb)
           | replace HZ := Lib.hid (row_below (row_drew HZ.out) bb)
           (try (obtain ⟨z0, z1, z2⟩ := valB_row HZ.out; have f0 := frozen_row HZ.out))))
    all_goals
      go_wp2_with fail
      refine bodyPost_ret (v := .tuple #[(truthV q1).agg, .int .i64 0]) (results_row_tmp rfl _ _ (w.heap.size + 1 + 1) 23 _ (0, 0) _ rfl (set3 HZ.out) Try.underlying23 rfl (by kernel_rfl) rfl) rfl ?_
      exact ⟨rfl, by go_split_ands; assumption⟩

set_option maxHeartbeats 12800000 in
theorem isNothing_any (x y : V3) (w : World) (hx : mayV x = true) : Calls Try.prog 57 #[x.agg, y.agg] w fun e w' => e = .returned (.tuple #[(saysO 10 x y).1.agg, .int .i64 (saysO 10 x y).2]) ∧ Below w.heap.size w w' := by
  obtain ⟨w1, hw1⟩ : ∃ w1, w1 = (((w.alloc (valBox x)).alloc (valBox y)).alloc (valBox v0)) := ⟨_, rfl⟩
  have HW := Lib.hid hw1
  have R0 : Hid (w1.heap[w.heap.size]? = some (valBox x)) := by rw [hw1]; exact old_row _ (old_row _ (new_row _ _ rfl))
  have R1 : Hid (w1.heap[w.heap.size + 1]? = some (valBox y)) := by rw [hw1]; exact old_row _ (new_row _ _ (by simp only [World.size_alloc]))
  have R2 : Hid (w1.heap[w.heap.size + 1 + 1]? = some (valBox v0)) := by rw [hw1]; exact new_row _ _ (by simp only [World.size_alloc])
  have HB : Hid (Below w.heap.size w w1) := by rw [hw1]; exact below_new (below_new (below_new (Below.refl _ _) _) _) _
  have SZ : Hid (w1.heap.size = w.heap.size + 1 + 1 + 1) := by show _ = _; rw [hw1]; simp only [World.size_alloc]
  obtain ⟨p0_0, p0_1, p0_2⟩ := valB_row R0.out
  obtain ⟨p1_0, p1_1, p1_2⟩ := valB_row R1.out
  obtain ⟨p2_0, p2_1, p2_2⟩ := valB_row R2.out
  clear hw1
  obtain ⟨n1, h1⟩ : ∃ q, Hid (decide (x = v0) = q) := ⟨_, rfl⟩
  have EN1 := fun W => run_eqV x v0 W
  rw [h1.out] at EN1
  have C := Lib.hid nothing_any
  have T := Lib.hid (fun W => truth_any n1 W)
  have hr : Hid (saysO 10 x y = (truthV n1, 0)) := by show _ = _; rw [says10, null_eq hx, h1.out]
  rw [hr.out]
  clear h1 hx
  go_enter Try.func57, Try.ntmps57
  go_upto_region 1 with fail
  rw [show (((w.alloc (valBox x)).alloc (valBox y)).alloc (valBox v0)) = w1 from HW.out.symm]
  clear HW
  clear SZ p0_0 p0_1 p0_2 p1_0 p1_1 p1_2 p2_0 p2_1 p2_2
  have hS0 : Below w.heap.size w w1 ∧ w1.cell? ⟨w.heap.size, 0, none⟩ = some (.int .i64 x.k) ∧ w1.cell? ⟨w.heap.size, 1, none⟩ = some (.int .i64 x.n) ∧ w1.cell? ⟨w.heap.size, 2, none⟩ = some (.string x.s) := ⟨HB.out, (valB_row R0.out).1, (valB_row R0.out).2.1, (valB_row R0.out).2.2⟩
  have K : Hid (∀ W W' : World, (Below w.heap.size w W ∧ W.cell? ⟨w.heap.size, 0, none⟩ = some (.int .i64 x.k) ∧ W.cell? ⟨w.heap.size, 1, none⟩ = some (.int .i64 x.n) ∧ W.cell? ⟨w.heap.size, 2, none⟩ = some (.string x.s)) → Below W.heap.size W W' → (Below w.heap.size w W' ∧ W'.cell? ⟨w.heap.size, 0, none⟩ = some (.int .i64 x.k) ∧ W'.cell? ⟨w.heap.size, 1, none⟩ = some (.int .i64 x.n) ∧ W'.cell? ⟨w.heap.size, 2, none⟩ = some (.string x.s))) := by
    rintro W W' ⟨k0, k1, k2, k3⟩ hb
    have hc : ∀ (p : Addr) (y : Value), W.cell? p = some y → W'.cell? p = some y := fun p y h2 => (hb.cell (World.block_lt_of_cell? _ _ h2)).trans h2
    exact ⟨below_then k0 hb, hc _ _ k1, hc _ _ k2, hc _ _ k3⟩
  have K2 : Hid (∀ (W : World) (j : Nat) (z : Value), (Below w.heap.size w W ∧ W.cell? ⟨w.heap.size, 0, none⟩ = some (.int .i64 x.k) ∧ W.cell? ⟨w.heap.size, 1, none⟩ = some (.int .i64 x.n) ∧ W.cell? ⟨w.heap.size, 2, none⟩ = some (.string x.s)) → (Below w.heap.size w (W.setCell ⟨w.heap.size + 1 + 1, j, none⟩ z) ∧ (W.setCell ⟨w.heap.size + 1 + 1, j, none⟩ z).cell? ⟨w.heap.size, 0, none⟩ = some (.int .i64 x.k) ∧ (W.setCell ⟨w.heap.size + 1 + 1, j, none⟩ z).cell? ⟨w.heap.size, 1, none⟩ = some (.int .i64 x.n) ∧ (W.setCell ⟨w.heap.size + 1 + 1, j, none⟩ z).cell? ⟨w.heap.size, 2, none⟩ = some (.string x.s))) := by
    rintro W j z ⟨k0, k1, k2, k3⟩
    have hc : ∀ i, (W.setCell ⟨w.heap.size + 1 + 1, j, none⟩ z).cell? ⟨w.heap.size, i, none⟩ = W.cell? ⟨w.heap.size, i, none⟩ := fun i => World.cell?_setCell_far _ _ _ _ (by show w.heap.size + 1 + 1 ≠ w.heap.size; omega)
    exact ⟨k0.setCell (show w.heap.size ≤ w.heap.size + 1 + 1 by omega) _, (hc 0).trans k1, (hc 1).trans k2, (hc 2).trans k3⟩
  have HZ := R2
  go_region_held3 (fun W => Below w.heap.size w W ∧ W.cell? ⟨w.heap.size, 0, none⟩ = some (.int .i64 x.k) ∧ W.cell? ⟨w.heap.size, 1, none⟩ = some (.int .i64 x.n) ∧ W.cell? ⟨w.heap.size, 2, none⟩ = some (.string x.s))
    (first
      | with_reducible exact K.out _ _ hS0 ((Below.refl _ _).drew)
      | with_reducible exact K.out _ _ (by assumption) bb
      | with_reducible assumption
      | with_reducible exact K2.out _ _ _ (K2.out _ _ _ (K2.out _ _ _ (by assumption)))
      | fail "S?")
    (first
      | (go_at_call 28
         refine (C.out _).mono ?_
         rintro e wx ⟨rfl, bb⟩
         first
         | replace HZ := Lib.hid (row_below HZ.out bb)
         | replace HZ := Lib.hid (row_below (row_drew HZ.out) bb)
         (try (obtain ⟨z0, z1, z2⟩ := valB_row HZ.out; have f0 := frozen_row HZ.out)))
      | (go_at_call 69
         refine (T.out _).mono ?_
         rintro e wx ⟨rfl, bb⟩
         first
         | replace HZ := Lib.hid (row_below HZ.out bb)
         | replace HZ := Lib.hid (row_below (row_drew HZ.out) bb)
         (try (obtain ⟨z0, z1, z2⟩ := valB_row HZ.out; have f0 := frozen_row HZ.out))))
  all_goals
    go_wp2_with fail
    refine bodyPost_ret (v := .tuple #[(truthV n1).agg, .int .i64 0]) (results_row_tmp rfl _ _ (w.heap.size + 1 + 1) 23 _ (0, 0) _ rfl (set3 HZ.out) Try.underlying23 rfl (by kernel_rfl) rfl) rfl ?_
    exact ⟨rfl, by go_split_ands; assumption⟩

theorem enters_ (g : Nat) (h : ∃ fn c, Try.prog.funcs[g]? = some fn ∧ (fn.name == "runtime.NumGoroutine") = false ∧ fn.body = some c) : EntersF g := by
  obtain ⟨fn, c, h1, h2, h3⟩ := h
  exact enters_of h1 h2 h3
theorem Try.eg_fc : EntersF 38 := enters_of Try.func38 (by kernel_rfl) rfl
theorem Try.eg_ck : EntersF 39 := enters_of Try.func39 (by kernel_rfl) rfl
theorem Try.eg_cs : EntersF 40 := enters_of Try.func40 (by kernel_rfl) rfl
theorem Try.eg_fl : EntersF 41 := enters_of Try.func41 (by kernel_rfl) rfl
theorem Try.eg_lk : EntersF 42 := enters_of Try.func42 (by kernel_rfl) rfl
theorem Try.eg_ls : EntersF 43 := enters_of Try.func43 (by kernel_rfl) rfl
theorem Try.eg_nm : EntersF 44 := enters_of Try.func44 (by kernel_rfl) rfl
theorem Try.eg_tg : EntersF 49 := enters_of Try.func49 (by kernel_rfl) rfl
theorem Try.eg_we : EntersF 56 := enters_of Try.func56 (by kernel_rfl) rfl
theorem Try.eg_r1 : EntersF 66 := enters_of Try.func66 (by kernel_rfl) rfl
theorem Try.eg_c1 : EntersF 68 := enters_of Try.func68 (by kernel_rfl) rfl
theorem Try.eg_w1 : EntersF 46 := enters_of Try.func46 (by kernel_rfl) rfl
theorem Try.eg_w2 : EntersF 47 := enters_of Try.func47 (by kernel_rfl) rfl
theorem Try.eg_pr : EntersF 48 := enters_of Try.func48 (by kernel_rfl) rfl
theorem Try.eg_w3 : EntersF 51 := enters_of Try.func51 (by kernel_rfl) rfl
theorem Try.eg_le : EntersF 52 := enters_of Try.func52 (by kernel_rfl) rfl
theorem Try.eg_an : EntersF 53 := enters_of Try.func53 (by kernel_rfl) rfl
theorem Try.eg_or : EntersF 54 := enters_of Try.func54 (by kernel_rfl) rfl
theorem Try.eg_no : EntersF 55 := enters_of Try.func55 (by kernel_rfl) rfl
theorem Try.eg_is : EntersF 57 := enters_of Try.func57 (by kernel_rfl) rfl
theorem Try.eg_lf : EntersF 59 := enters_of Try.func59 (by kernel_rfl) rfl
theorem Try.eg_t1 : EntersF 33 := enters_of Try.func33 (by kernel_rfl) rfl

theorem how1 : TellsHow 46 (· + ·) := fun a b W ha hb => words1_any a b W (by omega)
theorem how2 : TellsHow 47 (· - ·) := fun a b W ha hb => words2_any a b W (by omega)
theorem how3 : TellsHow 48 prodZ := fun a b W ha hb => product_any a b W ha hb
theorem are5 : TellsAre 51 (fun a b => decide (a = b)) := fun a b W _ _ => words3_any a b W
theorem are6 : TellsAre 52 lessV := fun a b W h h0 => less_any a b W ((may_kind h).resolve_left h0)
theorem say2 (gb : Nat) (w0 : World) (h : w0.heap[gb]? = some (reckonedBox 46)) : TellsSay 66 #[.pointer (some ⟨gb, 0, none⟩)] 2 w0 := fun W hW a b ha hb _ => by
  rw [says2]; exact reckoned1_any _ gb _ a b W Try.eg_w1 how1 (row_below h hW) ha hb
theorem say3 (gb : Nat) (w0 : World) (h : w0.heap[gb]? = some (reckonedBox 47)) : TellsSay 66 #[.pointer (some ⟨gb, 0, none⟩)] 3 w0 := fun W hW a b ha hb _ => by
  rw [says3]; exact reckoned1_any _ gb _ a b W Try.eg_w2 how2 (row_below h hW) ha hb
theorem say4 (gb : Nat) (w0 : World) (h : w0.heap[gb]? = some (reckonedBox 48)) : TellsSay 66 #[.pointer (some ⟨gb, 0, none⟩)] 4 w0 := fun W hW a b ha hb _ => by
  rw [says4, ← prod_reck]; exact reckoned1_any _ gb _ a b W Try.eg_pr how3 (row_below h hW) ha hb
theorem say5 (gb : Nat) (w0 : World) (h : w0.heap[gb]? = some (comparedBox 51)) : TellsSay 68 #[.pointer (some ⟨gb, 0, none⟩)] 5 w0 := fun W hW a b ha hb _ => by
  rw [says5]; exact compared1_any _ gb _ a b W Try.eg_w3 are5 (row_below h hW) ha hb
theorem say6 (gb : Nat) (w0 : World) (h : w0.heap[gb]? = some (comparedBox 52)) : TellsSay 68 #[.pointer (some ⟨gb, 0, none⟩)] 6 w0 := fun W hW a b ha hb _ => by
  rw [says6]; exact compared1_any _ gb _ a b W Try.eg_le are6 (row_below h hW) ha hb
theorem say7 (w0 : World) : TellsSay 53 #[] 7 w0 := fun W _ a b ha hb _ => and12_any a b W ha hb
theorem say8 (w0 : World) : TellsSay 54 #[] 8 w0 := fun W _ a b ha hb _ => or12_any a b W ha hb
theorem say9 (w0 : World) : TellsSay 55 #[] 9 w0 := fun W _ a b ha _ hg => not12_any a b W ha (gets_num (by omega) hg).1
theorem say10 (w0 : World) : TellsSay 57 #[] 10 w0 := fun W _ a b ha _ _ => isNothing_any a b W ha
end Go.Proofs.Ytkpkkkmokgmhfaa
