/- Layer 12: what is reckoned, and what is compared. -/
import Derived.Test.YtkpkkkmokgmhfaaExpLeaf
namespace Go.Proofs.Ytkpkkkmokgmhfaa
set_option maxRecDepth 100000
open Go.RowKit Go.MapKept

theorem null_eq {x : V3} (h : mayV x = true) : decide (x.k = 0) = decide (x = v0) := by
  refine Bool.eq_iff_iff.2 ?_
  simp only [decide_eq_true_eq]
  exact ⟨fun e => may_null h e, fun e => by rw [e]⟩
theorem nought_eq {x : V3} (h : mayV x = true) : (decide (x.k = 1) && decide (x.n = 0)) = decide (x = numV 0) := by
  refine Bool.eq_iff_iff.2 ?_
  simp only [Bool.and_eq_true, decide_eq_true_eq]
  refine ⟨fun e => ?_, fun e => by rw [e]; exact ⟨rfl, rfl⟩⟩
  rw [(may_num h e.1).1, e.2]
theorem yes_eq {x : V3} (h : mayV x = true) : (decide (x.k = 1) && !decide (x.n = 0)) = !decide (x.n = 0) := by
  rcases may_kind h with hk | hk | hk
  · rw [may_null h hk]; rfl
  · rw [hk]; rfl
  · rw [may_text h hk, hk]; rfl
theorem num_k {a : Int} (h : (decide (a = 0) || decide (a = 1)) = true) : a = 0 ∨ a = 1 := by simpa using h
theorem gets_num {k a b : Int} (hk : k = 2 ∨ k = 3 ∨ k = 4 ∨ k = 7 ∨ k = 8 ∨ k = 9) (h : gets3 k a b = true) : (a = 0 ∨ a = 1) ∧ (b = 0 ∨ b = 1) := by
  rw [gets3, if_pos hk, Bool.and_eq_true] at h
  exact ⟨num_k h.1, num_k h.2⟩
theorem may_rng {x : V3} (h : mayV x = true) : -1099511627776 ≤ x.n ∧ x.n ≤ 1099511627776 := by
  rcases may_kind h with hk | hk | hk
  · rw [may_null h hk]; decide
  · exact (may_num h hk).2
  · rw [may_text h hk]; decide
theorem says2 (x y : V3) : saysO 2 x y = reckV x y (x.n + y.n) := rfl
theorem says3 (x y : V3) : saysO 3 x y = reckV x y (x.n - y.n) := rfl
theorem says4 (x y : V3) : saysO 4 x y = reckV x y (x.n * y.n) := rfl
theorem says5 (x y : V3) : saysO 5 x y = if nullV x y = true then (v0, 0) else (truthV (decide (x = y)), 0) := rfl
theorem says6 (x y : V3) : saysO 6 x y = if nullV x y = true then (v0, 0) else (truthV (lessV x y), 0) := rfl
theorem says7 (x y : V3) : saysO 7 x y = if noV x y = true then (truthV false, 0) else if nullV x y = true then (v0, 0) else (truthV true, 0) := rfl
theorem says8 (x y : V3) : saysO 8 x y = if yesV x y = true then (truthV true, 0) else if nullV x y = true then (v0, 0) else (truthV false, 0) := rfl
theorem says9 (x y : V3) : saysO 9 x y = if x.k = 0 then (v0, 0) else (truthV (decide (x.n = 0)), 0) := rfl
theorem says10 (x y : V3) : saysO 10 x y = (truthV (decide (x.k = 0)), 0) := rfl

abbrev reckonedBox (F : Nat) : Obj := .cells #[fnV F] 71
set_option maxHeartbeats 1600000 in
theorem reckoned_any (F : Nat) (w : World) : Calls Try.prog 45 #[fnV F] w fun e w' => e = .returned (.func (.func 66) #[] #[.pointer (some ⟨w.heap.size, 0, none⟩)]) ∧ w'.heap[w.heap.size]? = some (reckonedBox F) ∧ Below w.heap.size w w' := by
  have HB : Hid (Below w.heap.size w (w.alloc (reckonedBox F))) := below_new (Below.refl _ _) _
  have R0 := Lib.hid (heap_alloc_new w (reckonedBox F))
  go_enter Try.func45, Try.ntmps45
  go_wp2
  go_ret
  exact ⟨rfl, R0.out, HB.out⟩

abbrev comparedBox (F : Nat) : Obj := .cells #[fnV F] 75
set_option maxHeartbeats 1600000 in
theorem compared_any (F : Nat) (w : World) : Calls Try.prog 50 #[fnV F] w fun e w' => e = .returned (.func (.func 68) #[] #[.pointer (some ⟨w.heap.size, 0, none⟩)]) ∧ w'.heap[w.heap.size]? = some (comparedBox F) ∧ Below w.heap.size w w' := by
  have HB : Hid (Below w.heap.size w (w.alloc (comparedBox F))) := below_new (Below.refl _ _) _
  have R0 := Lib.hid (heap_alloc_new w (comparedBox F))
  go_enter Try.func50, Try.ntmps50
  go_wp2
  go_ret
  exact ⟨rfl, R0.out, HB.out⟩

/-- a function over two numbers, called by its value -/
def TellsHow (F : Nat) (how : Int → Int → Int) : Prop := ∀ (a b : Int) (W : World), -1099511627776 ≤ a ∧ a ≤ 1099511627776 → -1099511627776 ≤ b ∧ b ≤ 1099511627776 → Calls Try.prog F #[.int .i64 a, .int .i64 b] W fun e W' => e = .returned (.int .i64 (how a b)) ∧ Below W.heap.size W W'
set_option maxHeartbeats 6400000 in
theorem reckoned1_any (F gb : Nat) (how : Int → Int → Int) (x y : V3) (w : World) (eg : EntersF F) (hF : TellsHow F how) (hb : w.heap[gb]? = some (reckonedBox F)) (hx : mayV x = true) (hy : mayV y = true) :
    Calls Try.prog 66 #[x.agg, y.agg, .pointer (some ⟨gb, 0, none⟩)] w fun e w' => e = .returned (.tuple #[(reckV x y (how x.n y.n)).1.agg, .int .i64 (reckV x y (how x.n y.n)).2]) ∧ Below w.heap.size w w' := by
  unfold EntersF at eg
  obtain ⟨w1, hw1⟩ : ∃ w1, w1 = (((w.alloc (valBox x)).alloc (valBox y)).alloc (valBox v0)) := ⟨_, rfl⟩
  have HW := Lib.hid hw1
  have R0 : Hid (w1.heap[w.heap.size]? = some (valBox x)) := by rw [hw1]; exact old_row _ (old_row _ (new_row _ _ rfl))
  have R1 : Hid (w1.heap[w.heap.size + 1]? = some (valBox y)) := by rw [hw1]; exact old_row _ (new_row _ _ (by simp only [World.size_alloc]))
  have R2 : Hid (w1.heap[w.heap.size + 1 + 1]? = some (valBox v0)) := by rw [hw1]; exact new_row _ _ (by simp only [World.size_alloc])
  have HB : Hid (Below w.heap.size w w1) := by rw [hw1]; exact below_new (below_new (below_new (Below.refl _ _) _) _) _
  have SZ : Hid (w1.heap.size = w.heap.size + 1 + 1 + 1) := by show _ = _; rw [hw1]; simp only [World.size_alloc]
  obtain ⟨p0_0, p0_1, p0_2⟩ := valB_row R0.out
  obtain ⟨p1_0, p1_1, p1_2⟩ := valB_row R1.out
  obtain ⟨p2_0, p2_1, p2_2⟩ := valB_row R2.out
  clear hw1
  have RB := Lib.hid (row_below hb HB.out)
  have k0_0 : ∀ p : BelowOf w1, p.W.cell? ⟨w.heap.size, 0, none⟩ = some (.int .i64 x.k) := fun p => p.cell p0_0
  have k0_1 : ∀ p : BelowOf w1, p.W.cell? ⟨w.heap.size, 1, none⟩ = some (.int .i64 x.n) := fun p => p.cell p0_1
  have k0_2 : ∀ p : BelowOf w1, p.W.cell? ⟨w.heap.size, 2, none⟩ = some (.string x.s) := fun p => p.cell p0_2
  have k1_0 : ∀ p : BelowOf w1, p.W.cell? ⟨w.heap.size + 1, 0, none⟩ = some (.int .i64 y.k) := fun p => p.cell p1_0
  have k1_1 : ∀ p : BelowOf w1, p.W.cell? ⟨w.heap.size + 1, 1, none⟩ = some (.int .i64 y.n) := fun p => p.cell p1_1
  have k1_2 : ∀ p : BelowOf w1, p.W.cell? ⟨w.heap.size + 1, 2, none⟩ = some (.string y.s) := fun p => p.cell p1_2
  obtain ⟨q1, h1⟩ : ∃ q, Hid (decide (x = v0) = q) := ⟨_, rfl⟩
  obtain ⟨q2, h2⟩ : ∃ q, Hid (decide (y = v0) = q) := ⟨_, rfl⟩
  have hn : Hid (nullV x y = (q1 || q2)) := by show _ = _; rw [nullV, null_eq hx, null_eq hy, h1.out, h2.out]
  have EQ1 := fun W => run_eqV x v0 W
  have EQ2 := fun W => run_eqV y v0 W
  rw [h1.out] at EQ1
  rw [h2.out] at EQ2
  have C := Lib.hid nothing_any
  have rx := may_rng hx
  have ry := may_rng hy
  have D := Lib.hid (fun W => hF x.n y.n W rx ry)
  obtain ⟨z, hz⟩ : ∃ z, Hid (how x.n y.n = z) := ⟨_, rfl⟩
  rw [hz.out] at D ⊢
  clear hb h1 h2 hF rx ry hz hx hy
  have fin : ∀ (q1 q2 : Bool), (q1 || q2) = true → nullV x y = (q1 || q2) → reckV x y z = (v0, 0) := fun q1 q2 h h2 => by rw [reckV, if_pos (by rw [h2, h])]
  have FIN := Lib.hid fin
  clear fin
  cases q1 with
  | true =>
    have hr : Hid (reckV x y z = (v0, 0)) := by show _ = _; exact FIN.out _ _ rfl hn.out
    rw [hr.out]
    go_enter Try.func66, Try.ntmps66
    go_upto_region 1 with fail
    rw [show (((w.alloc (valBox x)).alloc (valBox y)).alloc (valBox v0)) = w1 from HW.out.symm]
    clear HW
    refine wp_region_quiet_below (by kernel_rfl) (by kernel_rfl) ?_
    repeat (with_reducible refine wpQuiet_step (fun K hK => ?_); go_simp; first | (with_reducible refine hK _ ?_; clear hK K) | (apply Exists.intro; with_reducible refine ⟨fun _ => ?_, hK _ ?_⟩; (first | exact Calls.quiet_below (C.out _)); clear hK K))
    with_reducible refine wpQuiet_nil ?_
    rintro wq ⟨⟨_, hq⟩, rfl⟩
    have R2' := Lib.hid (row_below R2.out hq)
    have HB2 := Lib.hid (below_then HB.out hq)
    clear p0_0 p0_1 p0_2 p1_0 p1_1 p1_2 p2_0 p2_1 p2_2 k0_0 k0_1 k0_2 k1_0 k1_1 k1_2 EQ1 EQ2 hq
    go_wp2_with fail
    refine (C.out _).mono ?_
    rintro r w3 ⟨rfl, b3⟩
    have R3 := Lib.hid (row_below R2'.out b3)
    have HB3 := Lib.hid (below_then HB2.out b3)
    obtain ⟨p2_0, p2_1, p2_2⟩ := valB_row R3.out
    have f2 := frozen_row R3.out
    clear b3
    go_wp2_with fail
    refine bodyPost_ret (v := .tuple #[(v0).agg, .int .i64 0]) (results_row_tmp rfl _ _ (w.heap.size + 1 + 1) 23 _ (0, 0) _ rfl (set3 R3.out) Try.underlying23 rfl (by kernel_rfl) rfl) rfl ?_
    exact ⟨rfl, below_set3 HB3.out (by omega)⟩
  | false =>
  cases q2 with
  | true =>
    have hr : Hid (reckV x y z = (v0, 0)) := by show _ = _; exact FIN.out _ _ rfl hn.out
    rw [hr.out]
    go_enter Try.func66, Try.ntmps66
    go_upto_region 1 with fail
    rw [show (((w.alloc (valBox x)).alloc (valBox y)).alloc (valBox v0)) = w1 from HW.out.symm]
    clear HW
    refine wp_region_quiet_below (by kernel_rfl) (by kernel_rfl) ?_
    repeat (with_reducible refine wpQuiet_step (fun K hK => ?_); go_simp; first | (with_reducible refine hK _ ?_; clear hK K) | (apply Exists.intro; with_reducible refine ⟨fun _ => ?_, hK _ ?_⟩; (first | exact Calls.quiet_below (C.out _)); clear hK K))
    with_reducible refine wpQuiet_nil ?_
    rintro wq ⟨⟨_, hq⟩, rfl⟩
    have R2' := Lib.hid (row_below R2.out hq)
    have HB2 := Lib.hid (below_then HB.out hq)
    clear p0_0 p0_1 p0_2 p1_0 p1_1 p1_2 p2_0 p2_1 p2_2 k0_0 k0_1 k0_2 k1_0 k1_1 k1_2 EQ1 EQ2 hq
    go_wp2_with fail
    refine (C.out _).mono ?_
    rintro r w3 ⟨rfl, b3⟩
    have R3 := Lib.hid (row_below R2'.out b3)
    have HB3 := Lib.hid (below_then HB2.out b3)
    obtain ⟨p2_0, p2_1, p2_2⟩ := valB_row R3.out
    have f2 := frozen_row R3.out
    clear b3
    go_wp2_with fail
    refine bodyPost_ret (v := .tuple #[(v0).agg, .int .i64 0]) (results_row_tmp rfl _ _ (w.heap.size + 1 + 1) 23 _ (0, 0) _ rfl (set3 R3.out) Try.underlying23 rfl (by kernel_rfl) rfl) rfl ?_
    exact ⟨rfl, below_set3 HB3.out (by omega)⟩
  | false =>
    have hnn : Hid (nullV x y = false) := by show _ = _; rw [hn.out]; rfl
    go_enter Try.func66, Try.ntmps66
    go_upto_region 1 with fail
    rw [show (((w.alloc (valBox x)).alloc (valBox y)).alloc (valBox v0)) = w1 from HW.out.symm]
    clear HW
    refine wp_region_quiet_below (by kernel_rfl) (by kernel_rfl) ?_
    repeat (with_reducible refine wpQuiet_step (fun K hK => ?_); go_simp; first | (with_reducible refine hK _ ?_; clear hK K) | (apply Exists.intro; with_reducible refine ⟨fun _ => ?_, hK _ ?_⟩; (first | exact Calls.quiet_below (C.out _)); clear hK K))
    with_reducible refine wpQuiet_nil ?_
    rintro wq ⟨⟨_, hq⟩, rfl⟩
    have R2' := Lib.hid (row_below R2.out hq)
    have RB' := Lib.hid (row_below RB.out hq)
    obtain ⟨p0_0, p0_1, p0_2⟩ := valB_row (row_below R0.out hq)
    obtain ⟨p1_0, p1_1, p1_2⟩ := valB_row (row_below R1.out hq)
    have pb : wq.cell? ⟨gb, 0, none⟩ = some (fnV F) := cell_row RB'.out 0
    have HB2 := Lib.hid (below_then HB.out hq)
    clear p2_0 p2_1 p2_2 k0_0 k0_1 k0_2 k1_0 k1_1 k1_2 EQ1 EQ2 hq
    go_wp2_with fail
    refine (D.out _).mono ?_
    rintro r w3 ⟨rfl, b3⟩
    have R3 := Lib.hid (row_below R2'.out b3)
    have HB3 := Lib.hid (below_then HB2.out b3)
    clear b3 p0_0 p0_1 p0_2 p1_0 p1_1 p1_2 pb
    have O := Lib.hid (fun W => over_any z W)
    obtain ⟨ov, hov⟩ : ∃ ov, Hid (overB z = ov) := ⟨_, rfl⟩
    rw [hov.out] at O
    go_wp2_with fail
    refine (O.out _).mono ?_
    rintro r w4 ⟨rfl, b4⟩
    have R4 := Lib.hid (row_below R3.out b4)
    have HB4 := Lib.hid (below_then HB3.out b4)
    clear b4
    cases ov with
    | true =>
      have hr : Hid (reckV x y z = (v0, 20)) := by
        show _ = _
        have h := hov.out
        rw [overB, Bool.or_eq_true, decide_eq_true_eq, decide_eq_true_eq] at h
        rw [reckV, if_neg (by rw [hnn.out]; decide), if_pos h]
      go_wp2_with fail
      refine (C.out _).mono ?_
      rintro r w5 ⟨rfl, b5⟩
      have R5 := Lib.hid (row_below R4.out b5)
      have HB5 := Lib.hid (below_then HB4.out b5)
      obtain ⟨p2_0, p2_1, p2_2⟩ := valB_row R5.out
      have f2 := frozen_row R5.out
      clear b5
      go_wp2_with fail
      refine bodyPost_ret (v := .tuple #[(v0).agg, .int .i64 20]) (results_row_tmp rfl _ _ (w.heap.size + 1 + 1) 23 _ (0, 0) _ rfl (set3 R5.out) Try.underlying23 rfl (by kernel_rfl) rfl) rfl ?_
      exact ⟨by rw [hr.out], below_set3 HB5.out (by omega)⟩
    | false =>
      have hr : Hid (reckV x y z = (numV z, 0)) := by
        show _ = _
        have h := hov.out
        rw [overB, Bool.or_eq_false_iff, decide_eq_false_iff_not, decide_eq_false_iff_not] at h
        rw [reckV, if_neg (by rw [hnn.out]; decide), if_neg (fun h2 => h2.elim h.1 h.2)]
      go_wp2_with fail
      refine (number_any z _).mono ?_
      rintro r w5 ⟨rfl, b5⟩
      have R5 := Lib.hid (row_below R4.out b5)
      have HB5 := Lib.hid (below_then HB4.out b5)
      obtain ⟨p2_0, p2_1, p2_2⟩ := valB_row R5.out
      have f2 := frozen_row R5.out
      clear b5
      go_wp2_with fail
      refine bodyPost_ret (v := .tuple #[(numV z).agg, .int .i64 0]) (results_row_tmp rfl _ _ (w.heap.size + 1 + 1) 23 _ (0, 0) _ rfl (set3 R5.out) Try.underlying23 rfl (by kernel_rfl) rfl) rfl ?_
      exact ⟨by rw [hr.out], below_set3 HB5.out (by omega)⟩

/-- a function over two values, called by its value -/
def TellsAre (F : Nat) (are : V3 → V3 → Bool) : Prop := ∀ (a b : V3) (W : World), mayV a = true → a.k ≠ 0 → Calls Try.prog F #[a.agg, b.agg] W fun e W' => e = .returned (.bool (are a b)) ∧ Below W.heap.size W W'
set_option maxHeartbeats 6400000 in
theorem compared1_any (F gb : Nat) (are : V3 → V3 → Bool) (x y : V3) (w : World) (eg : EntersF F) (hF : TellsAre F are) (hb : w.heap[gb]? = some (comparedBox F)) (hx : mayV x = true) (hy : mayV y = true) :
    Calls Try.prog 68 #[x.agg, y.agg, .pointer (some ⟨gb, 0, none⟩)] w fun e w' => e = .returned (.tuple #[(if nullV x y = true then (v0, (0 : Int)) else (truthV (are x y), 0)).1.agg, .int .i64 (if nullV x y = true then (v0, (0 : Int)) else (truthV (are x y), 0)).2]) ∧ Below w.heap.size w w' := by
  unfold EntersF at eg
  obtain ⟨w1, hw1⟩ : ∃ w1, w1 = (((w.alloc (valBox x)).alloc (valBox y)).alloc (valBox v0)) := ⟨_, rfl⟩
  have HW := Lib.hid hw1
  have R0 : Hid (w1.heap[w.heap.size]? = some (valBox x)) := by rw [hw1]; exact old_row _ (old_row _ (new_row _ _ rfl))
  have R1 : Hid (w1.heap[w.heap.size + 1]? = some (valBox y)) := by rw [hw1]; exact old_row _ (new_row _ _ (by simp only [World.size_alloc]))
  have R2 : Hid (w1.heap[w.heap.size + 1 + 1]? = some (valBox v0)) := by rw [hw1]; exact new_row _ _ (by simp only [World.size_alloc])
  have HB : Hid (Below w.heap.size w w1) := by rw [hw1]; exact below_new (below_new (below_new (Below.refl _ _) _) _) _
  have SZ : Hid (w1.heap.size = w.heap.size + 1 + 1 + 1) := by show _ = _; rw [hw1]; simp only [World.size_alloc]
  obtain ⟨p0_0, p0_1, p0_2⟩ := valB_row R0.out
  obtain ⟨p1_0, p1_1, p1_2⟩ := valB_row R1.out
  obtain ⟨p2_0, p2_1, p2_2⟩ := valB_row R2.out
  clear hw1
  have RB := Lib.hid (row_below hb HB.out)
  have k0_0 : ∀ p : BelowOf w1, p.W.cell? ⟨w.heap.size, 0, none⟩ = some (.int .i64 x.k) := fun p => p.cell p0_0
  have k0_1 : ∀ p : BelowOf w1, p.W.cell? ⟨w.heap.size, 1, none⟩ = some (.int .i64 x.n) := fun p => p.cell p0_1
  have k0_2 : ∀ p : BelowOf w1, p.W.cell? ⟨w.heap.size, 2, none⟩ = some (.string x.s) := fun p => p.cell p0_2
  have k1_0 : ∀ p : BelowOf w1, p.W.cell? ⟨w.heap.size + 1, 0, none⟩ = some (.int .i64 y.k) := fun p => p.cell p1_0
  have k1_1 : ∀ p : BelowOf w1, p.W.cell? ⟨w.heap.size + 1, 1, none⟩ = some (.int .i64 y.n) := fun p => p.cell p1_1
  have k1_2 : ∀ p : BelowOf w1, p.W.cell? ⟨w.heap.size + 1, 2, none⟩ = some (.string y.s) := fun p => p.cell p1_2
  obtain ⟨q1, h1⟩ : ∃ q, Hid (decide (x = v0) = q) := ⟨_, rfl⟩
  obtain ⟨q2, h2⟩ : ∃ q, Hid (decide (y = v0) = q) := ⟨_, rfl⟩
  have hn : Hid (nullV x y = (q1 || q2)) := by show _ = _; rw [nullV, null_eq hx, null_eq hy, h1.out, h2.out]
  have EQ1 := fun W => run_eqV x v0 W
  have EQ2 := fun W => run_eqV y v0 W
  rw [h1.out] at EQ1
  rw [h2.out] at EQ2
  have C := Lib.hid nothing_any
  obtain ⟨z, hz⟩ : ∃ z, Hid (are x y = z) := ⟨_, rfl⟩
  have D : Hid (q1 = false → ∀ W, Calls Try.prog F #[.agg #[.int .i64 x.k, .int .i64 x.n, .string x.s], .agg #[.int .i64 y.k, .int .i64 y.n, .string y.s]] W fun e W' => e = .returned (.bool z) ∧ Below W.heap.size W W') := by
    show q1 = false → _
    intro h W
    rw [← hz.out]
    refine hF x y W hx (fun h0 => ?_)
    rw [← h1.out] at h
    exact absurd (may_null hx h0) (of_decide_eq_false h)
  rw [hz.out]
  clear hb h1 h2 hF hz hx hy
  cases q1 with
  | true =>
    have hr : Hid ((if nullV x y = true then (v0, (0 : Int)) else (truthV z, 0)) = (v0, 0)) := by show _ = _; rw [hn.out]; rfl
    rw [hr.out]
    clear D
    go_enter Try.func68, Try.ntmps68
    go_upto_region 1 with fail
    rw [show (((w.alloc (valBox x)).alloc (valBox y)).alloc (valBox v0)) = w1 from HW.out.symm]
    clear HW
    refine wp_region_quiet_below (by kernel_rfl) (by kernel_rfl) ?_
    repeat (with_reducible refine wpQuiet_step (fun K hK => ?_); go_simp; first | (with_reducible refine hK _ ?_; clear hK K) | (apply Exists.intro; with_reducible refine ⟨fun _ => ?_, hK _ ?_⟩; (first | exact Calls.quiet_below (C.out _)); clear hK K))
    with_reducible refine wpQuiet_nil ?_
    rintro wq ⟨⟨_, hq⟩, rfl⟩
    have R2' := Lib.hid (row_below R2.out hq)
    have HB2 := Lib.hid (below_then HB.out hq)
    clear p0_0 p0_1 p0_2 p1_0 p1_1 p1_2 p2_0 p2_1 p2_2 k0_0 k0_1 k0_2 k1_0 k1_1 k1_2 EQ1 EQ2 hq
    go_wp2_with fail
    refine (C.out _).mono ?_
    rintro r w3 ⟨rfl, b3⟩
    have R3 := Lib.hid (row_below R2'.out b3)
    have HB3 := Lib.hid (below_then HB2.out b3)
    obtain ⟨p2_0, p2_1, p2_2⟩ := valB_row R3.out
    have f2 := frozen_row R3.out
    clear b3
    go_wp2_with fail
    refine bodyPost_ret (v := .tuple #[(v0).agg, .int .i64 0]) (results_row_tmp rfl _ _ (w.heap.size + 1 + 1) 23 _ (0, 0) _ rfl (set3 R3.out) Try.underlying23 rfl (by kernel_rfl) rfl) rfl ?_
    exact ⟨rfl, below_set3 HB3.out (by omega)⟩
  | false =>
  cases q2 with
  | true =>
    have hr : Hid ((if nullV x y = true then (v0, (0 : Int)) else (truthV z, 0)) = (v0, 0)) := by show _ = _; rw [hn.out]; rfl
    rw [hr.out]
    clear D
    go_enter Try.func68, Try.ntmps68
    go_upto_region 1 with fail
    rw [show (((w.alloc (valBox x)).alloc (valBox y)).alloc (valBox v0)) = w1 from HW.out.symm]
    clear HW
    refine wp_region_quiet_below (by kernel_rfl) (by kernel_rfl) ?_
    repeat (with_reducible refine wpQuiet_step (fun K hK => ?_); go_simp; first | (with_reducible refine hK _ ?_; clear hK K) | (apply Exists.intro; with_reducible refine ⟨fun _ => ?_, hK _ ?_⟩; (first | exact Calls.quiet_below (C.out _)); clear hK K))
    with_reducible refine wpQuiet_nil ?_
    rintro wq ⟨⟨_, hq⟩, rfl⟩
    have R2' := Lib.hid (row_below R2.out hq)
    have HB2 := Lib.hid (below_then HB.out hq)
    clear p0_0 p0_1 p0_2 p1_0 p1_1 p1_2 p2_0 p2_1 p2_2 k0_0 k0_1 k0_2 k1_0 k1_1 k1_2 EQ1 EQ2 hq
    go_wp2_with fail
    refine (C.out _).mono ?_
    rintro r w3 ⟨rfl, b3⟩
    have R3 := Lib.hid (row_below R2'.out b3)
    have HB3 := Lib.hid (below_then HB2.out b3)
    obtain ⟨p2_0, p2_1, p2_2⟩ := valB_row R3.out
    have f2 := frozen_row R3.out
    clear b3
    go_wp2_with fail
    refine bodyPost_ret (v := .tuple #[(v0).agg, .int .i64 0]) (results_row_tmp rfl _ _ (w.heap.size + 1 + 1) 23 _ (0, 0) _ rfl (set3 R3.out) Try.underlying23 rfl (by kernel_rfl) rfl) rfl ?_
    exact ⟨rfl, below_set3 HB3.out (by omega)⟩
  | false =>
    have hr : Hid ((if nullV x y = true then (v0, (0 : Int)) else (truthV z, 0)) = (truthV z, 0)) := by show _ = _; rw [hn.out]; rfl
    rw [hr.out]
    replace D := Lib.hid (D.out rfl)
    go_enter Try.func68, Try.ntmps68
    go_upto_region 1 with fail
    rw [show (((w.alloc (valBox x)).alloc (valBox y)).alloc (valBox v0)) = w1 from HW.out.symm]
    clear HW
    refine wp_region_quiet_below (by kernel_rfl) (by kernel_rfl) ?_
    repeat (with_reducible refine wpQuiet_step (fun K hK => ?_); go_simp; first | (with_reducible refine hK _ ?_; clear hK K) | (apply Exists.intro; with_reducible refine ⟨fun _ => ?_, hK _ ?_⟩; (first | exact Calls.quiet_below (C.out _)); clear hK K))
    with_reducible refine wpQuiet_nil ?_
    rintro wq ⟨⟨_, hq⟩, rfl⟩
    have R2' := Lib.hid (row_below R2.out hq)
    have RB' := Lib.hid (row_below RB.out hq)
    obtain ⟨p0_0, p0_1, p0_2⟩ := valB_row (row_below R0.out hq)
    obtain ⟨p1_0, p1_1, p1_2⟩ := valB_row (row_below R1.out hq)
    have pb : wq.cell? ⟨gb, 0, none⟩ = some (fnV F) := cell_row RB'.out 0
    have HB2 := Lib.hid (below_then HB.out hq)
    clear p2_0 p2_1 p2_2 k0_0 k0_1 k0_2 k1_0 k1_1 k1_2 EQ1 EQ2 hq
    go_wp2_with fail
    refine (D.out _).mono ?_
    rintro r w3 ⟨rfl, b3⟩
    have R3 := Lib.hid (row_below R2'.out b3)
    have HB3 := Lib.hid (below_then HB2.out b3)
    clear b3 p0_0 p0_1 p0_2 p1_0 p1_1 p1_2 pb
    go_wp2_with fail
    refine (truth_any z _).mono ?_
    rintro r w5 ⟨rfl, b5⟩
    have R5 := Lib.hid (row_below R3.out b5)
    have HB5 := Lib.hid (below_then HB3.out b5)
    obtain ⟨p2_0, p2_1, p2_2⟩ := valB_row R5.out
    have f2 := frozen_row R5.out
    clear b5
    go_wp2_with fail
    refine bodyPost_ret (v := .tuple #[(truthV z).agg, .int .i64 0]) (results_row_tmp rfl _ _ (w.heap.size + 1 + 1) 23 _ (0, 0) _ rfl (set3 R5.out) Try.underlying23 rfl (by kernel_rfl) rfl) rfl ?_
    exact ⟨rfl, below_set3 HB5.out (by omega)⟩
end Go.Proofs.Ytkpkkkmokgmhfaa
