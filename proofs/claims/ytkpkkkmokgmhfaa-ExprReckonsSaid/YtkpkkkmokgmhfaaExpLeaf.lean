/- Layer 12: columns and literals. -/
import Derived.Test.YtkpkkkmokgmhfaaExpLess
namespace Go.Proofs.Ytkpkkkmokgmhfaa
set_option maxRecDepth 100000
open Go.RowKit Go.MapKept

set_option maxHeartbeats 3200000 in
theorem formedColumn_any (e : E6) (w : World) : Calls Try.prog 38 #[e.agg] w fun r w' => r = .returned (.bool (decide (0 ≤ e.n) && decide (e.v = v0))) ∧ Below w.heap.size w w' := by
  obtain ⟨w1, hw1⟩ : ∃ w1, w1 = (w.alloc (exprBox e)) := ⟨_, rfl⟩
  have HW := Lib.hid hw1
  have R0 : Hid (w1.heap[w.heap.size]? = some (exprBox e)) := by rw [hw1]; exact new_row _ _ rfl
  have HB : Hid (Below w.heap.size w w1) := by rw [hw1]; exact below_new (Below.refl _ _) _
  have SZ : Hid (w1.heap.size = w.heap.size + 1) := by show _ = _; rw [hw1]; simp only [World.size_alloc]
  obtain ⟨p0_0, p0_1, p0_2, p0_3, p0_4, p0_5⟩ := expr_row R0.out
  clear hw1
  have k0_0 : ∀ p : BelowOf w1, p.W.cell? ⟨w.heap.size, 0, none⟩ = some (.int .i64 e.k) := fun p => p.cell p0_0
  have k0_1 : ∀ p : BelowOf w1, p.W.cell? ⟨w.heap.size, 1, none⟩ = some (.int .i64 e.n) := fun p => p.cell p0_1
  have k0_2 : ∀ p : BelowOf w1, p.W.cell? ⟨w.heap.size, 2, none⟩ = some (.int .i64 e.v.k) := fun p => p.cell p0_2
  have k0_3 : ∀ p : BelowOf w1, p.W.cell? ⟨w.heap.size, 3, none⟩ = some (.int .i64 e.v.n) := fun p => p.cell p0_3
  have k0_4 : ∀ p : BelowOf w1, p.W.cell? ⟨w.heap.size, 4, none⟩ = some (.string e.v.s) := fun p => p.cell p0_4
  have k0_5 : ∀ p : BelowOf w1, p.W.cell? ⟨w.heap.size, 5, none⟩ = some (.slice e.a e.m e.c) := fun p => p.cell p0_5
  have kl0 : ∀ p : BelowOf w1, (loadVar 23 ⟨w.heap.size, 2, none⟩).run Try.prog p.W = .ok (.agg #[.int .i64 e.v.k, .int .i64 e.v.n, .string e.v.s]) p.W := fun p => loadV_at p.W _ _ _ (fun i x hx => by
    have h := p.cell p0_2; have h1 := p.cell p0_3; have h2 := p.cell p0_4
    match i, hx with
    | 0, hx => cases hx; exact h
    | 1, hx => cases hx; exact h1
    | 2, hx => cases hx; exact h2
    | i + 3, hx => simp [V3.cells] at hx)
  obtain ⟨q, hq0⟩ : ∃ q, Hid (decide (e.v = v0) = q) := ⟨_, rfl⟩
  have EQ := fun W => run_eqV e.v v0 W
  rw [hq0.out] at EQ ⊢
  have C := Lib.hid nothing_any
  clear hq0
  by_cases h : 0 ≤ e.n
  · have h2 : Hid ((decide (0 ≤ e.n) && q) = q) := by show _ = _; rw [decide_eq_true h]; rfl
    go_enter Try.func38, Try.ntmps38
    go_upto_region 1 with fail
    rw [show (w.alloc (exprBox e)) = w1 from HW.out.symm]
    clear HW
    refine wp_region_quiet_below (by kernel_rfl) (by kernel_rfl) ?_
    repeat (with_reducible refine wpQuiet_step (fun K hK => ?_); go_simp; first | (with_reducible refine hK _ ?_; clear hK K) | (apply Exists.intro; with_reducible refine ⟨fun _ => ?_, hK _ ?_⟩; (exact Calls.quiet_below (C.out _)); clear hK K))
    with_reducible refine wpQuiet_nil ?_
    rintro wq ⟨⟨_, hq⟩, rfl⟩
    go_wp2
    go_ret
    exact ⟨by first | rfl | exact ret_bool h2.out.symm, below_then HB.out hq⟩
  · have h2 : Hid ((decide (0 ≤ e.n) && q) = false) := by show _ = _; rw [decide_eq_false h]; rfl
    have h3 : decide (0 ≤ e.n) = false := decide_eq_false h
    have h4 : e.n < 0 := by omega
    go_enter Try.func38, Try.ntmps38
    go_upto_region 1 with fail
    rw [show (w.alloc (exprBox e)) = w1 from HW.out.symm]
    clear HW
    refine wp_region_quiet_below (by kernel_rfl) (by kernel_rfl) ?_
    repeat (with_reducible refine wpQuiet_step (fun K hK => ?_); go_simp; first | (with_reducible refine hK _ ?_; clear hK K) | (apply Exists.intro; with_reducible refine ⟨fun _ => ?_, hK _ ?_⟩; (exact Calls.quiet_below (C.out _)); clear hK K))
    with_reducible refine wpQuiet_nil ?_
    rintro wq ⟨⟨_, hq⟩, rfl⟩
    go_wp2
    go_ret
    exact ⟨by first | rfl | exact ret_bool h2.out.symm, below_then HB.out hq⟩

set_option maxHeartbeats 3200000 in
theorem formedLiteral_any (e : E6) (w : World) : Calls Try.prog 41 #[e.agg] w fun r w' => r = .returned (.bool (decide (e.n = 0) && mayV e.v)) ∧ Below w.heap.size w w' := by
  obtain ⟨w1, hw1⟩ : ∃ w1, w1 = (w.alloc (exprBox e)) := ⟨_, rfl⟩
  have HW := Lib.hid hw1
  have R0 : Hid (w1.heap[w.heap.size]? = some (exprBox e)) := by rw [hw1]; exact new_row _ _ rfl
  have HB : Hid (Below w.heap.size w w1) := by rw [hw1]; exact below_new (Below.refl _ _) _
  have SZ : Hid (w1.heap.size = w.heap.size + 1) := by show _ = _; rw [hw1]; simp only [World.size_alloc]
  obtain ⟨p0_0, p0_1, p0_2, p0_3, p0_4, p0_5⟩ := expr_row R0.out
  clear hw1
  obtain ⟨q, hq0⟩ : ∃ q, Hid (mayV e.v = q) := ⟨_, rfl⟩
  have C : Hid (∀ W, Calls Try.prog 37 #[.agg #[.int .i64 e.v.k, .int .i64 e.v.n, .string e.v.s]] W fun r w' => r = .returned (.bool q) ∧ Below W.heap.size W w') := fun W => by rw [← hq0.out]; exact may_any e.v W
  rw [hq0.out]
  clear hq0
  rcases Decidable.em (e.n = 0) with h | h
  · have h2 : Hid ((decide (e.n = 0) && q) = q) := by show _ = _; rw [decide_eq_true h]; rfl
    have e1 := beq_yes h
    clear h
    go_enter Try.func41, Try.ntmps41
    go_upto_region 1 with fail
    rw [show (w.alloc (exprBox e)) = w1 from HW.out.symm]
    clear HW
    go_wp2_with fail
    refine (C.out _).mono ?_
    rintro r w2 ⟨rfl, b2⟩
    have HB2 := Lib.hid (below_then HB.out b2)
    clear b2
    go_wp2_with fail
    go_ret
    exact ⟨ret_bool h2.out.symm, HB2.out⟩
  · have h2 : Hid ((decide (e.n = 0) && q) = false) := by show _ = _; rw [decide_eq_false h]; rfl
    have e1 := beq_no h
    clear h
    go_enter Try.func41, Try.ntmps41
    go_upto_region 1 with fail
    rw [show (w.alloc (exprBox e)) = w1 from HW.out.symm]
    clear HW
    go_wp2_with fail
    go_ret
    exact ⟨ret_bool h2.out.symm, HB.out⟩

set_option maxHeartbeats 3200000 in
theorem literalKind_any (e : E6) (A : Option Addr) (n c : Nat) (w : World) : Calls Try.prog 42 #[e.agg, .slice A n c] w fun r w' => r = .returned (.int .i64 e.v.k) ∧ Below w.heap.size w w' := by
  obtain ⟨w1, hw1⟩ : ∃ w1, w1 = (w.alloc (exprBox e)) := ⟨_, rfl⟩
  have HW := Lib.hid hw1
  have R0 : Hid (w1.heap[w.heap.size]? = some (exprBox e)) := by rw [hw1]; exact new_row _ _ rfl
  have HB : Hid (Below w.heap.size w w1) := by rw [hw1]; exact below_new (Below.refl _ _) _
  have SZ : Hid (w1.heap.size = w.heap.size + 1) := by show _ = _; rw [hw1]; simp only [World.size_alloc]
  obtain ⟨p0_0, p0_1, p0_2, p0_3, p0_4, p0_5⟩ := expr_row R0.out
  clear hw1
  go_enter Try.func42, Try.ntmps42
  go_upto_region 1 with fail
  rw [show (w.alloc (exprBox e)) = w1 from HW.out.symm]
  clear HW
  go_wp2
  go_ret
  exact ⟨rfl, HB.out⟩

set_option maxHeartbeats 3200000 in
theorem columnKind_any (e : E6) (A : Option Addr) (n c : Nat) (ks : List Int) (w : World) (h : Rd w A n c (vals .i64 ks)) (h0 : 0 ≤ e.n) (h1 : e.n < ks.length) : Calls Try.prog 39 #[e.agg, .slice A n c] w fun r w' => r = .returned (.int .i64 (ks.getD e.n.toNat 0)) ∧ Below w.heap.size w w' := by
  obtain ⟨w1, hw1⟩ : ∃ w1, w1 = (w.alloc (exprBox e)) := ⟨_, rfl⟩
  have HW := Lib.hid hw1
  have R0 : Hid (w1.heap[w.heap.size]? = some (exprBox e)) := by rw [hw1]; exact new_row _ _ rfl
  have HB : Hid (Below w.heap.size w w1) := by rw [hw1]; exact below_new (Below.refl _ _) _
  have SZ : Hid (w1.heap.size = w.heap.size + 1) := by show _ = _; rw [hw1]; simp only [World.size_alloc]
  obtain ⟨p0_0, p0_1, p0_2, p0_3, p0_4, p0_5⟩ := expr_row R0.out
  clear hw1
  have hl : ks.length = n := by simpa using h.len
  obtain ⟨b, o, u, rfl, _, hu, hcu⟩ := (h.below HB.out).at_ (k := e.n.toNat) (by omega)
  obtain ⟨x, hx, rfl⟩ := vals_at hu
  have hr : Hid (ks.getD e.n.toNat 0 = x) := by show _ = _; rw [List.getD_eq_getElem?_getD, hx]; rfl
  rw [hr.out]
  have g1 : e.n < (n : Int) := by omega
  have g2 : (0 : Int) ≤ e.n := h0
  clear h hl h0 h1 hu hx
  go_enter Try.func39, Try.ntmps39
  go_upto_region 1 with fail
  rw [show (w.alloc (exprBox e)) = w1 from HW.out.symm]
  clear HW
  go_wp2
  go_ret
  exact ⟨rfl, HB.out⟩

set_option maxHeartbeats 3200000 in
theorem literalSays_any (e : E6) (A : Option Addr) (n c : Nat) (w : World) : Calls Try.prog 43 #[e.agg, .slice A n c] w fun r w' => r = .returned (.tuple #[e.v.agg, .int .i64 0]) ∧ Below w.heap.size w w' := by
  obtain ⟨w1, hw1⟩ : ∃ w1, w1 = ((w.alloc (exprBox e)).alloc (valBox v0)) := ⟨_, rfl⟩
  have HW := Lib.hid hw1
  have R0 : Hid (w1.heap[w.heap.size]? = some (exprBox e)) := by rw [hw1]; exact old_row _ (new_row _ _ rfl)
  have R1 : Hid (w1.heap[w.heap.size + 1]? = some (valBox v0)) := by rw [hw1]; exact new_row _ _ (by simp only [World.size_alloc])
  have HB : Hid (Below w.heap.size w w1) := by rw [hw1]; exact below_new (below_new (Below.refl _ _) _) _
  have SZ : Hid (w1.heap.size = w.heap.size + 1 + 1) := by show _ = _; rw [hw1]; simp only [World.size_alloc]
  obtain ⟨p0_0, p0_1, p0_2, p0_3, p0_4, p0_5⟩ := expr_row R0.out
  obtain ⟨p1_0, p1_1, p1_2⟩ := valB_row R1.out
  clear hw1
  have f1 := frozen_row R1.out
  go_enter Try.func43, Try.ntmps43
  go_upto_region 1 with fail
  rw [show ((w.alloc (exprBox e)).alloc (valBox v0)) = w1 from HW.out.symm]
  clear HW
  go_wp2
  refine bodyPost_ret (v := .tuple #[(e.v).agg, .int .i64 0]) (results_row_tmp rfl _ _ (w.heap.size + 1) 23 _ (0, 0) _ rfl (set3 R1.out) Try.underlying23 rfl (by kernel_rfl) rfl) rfl ?_
  exact ⟨rfl, below_set3 HB.out (by omega)⟩

def colSays (e : E6) (row : List V3) : V3 × Int := if e.n < row.length then (row.getD e.n.toNat v0, 0) else (v0, 4)
set_option maxHeartbeats 3200000 in
theorem columnSays_any (e : E6) (A : Option Addr) (n c : Nat) (row : List V3) (w : World) (h : RdV w A n c row) (h0 : 0 ≤ e.n) : Calls Try.prog 40 #[e.agg, .slice A n c] w fun r w' => r = .returned (.tuple #[(colSays e row).1.agg, .int .i64 (colSays e row).2]) ∧ Below w.heap.size w w' := by
  obtain ⟨w1, hw1⟩ : ∃ w1, w1 = ((w.alloc (exprBox e)).alloc (valBox v0)) := ⟨_, rfl⟩
  have HW := Lib.hid hw1
  have R0 : Hid (w1.heap[w.heap.size]? = some (exprBox e)) := by rw [hw1]; exact old_row _ (new_row _ _ rfl)
  have R1 : Hid (w1.heap[w.heap.size + 1]? = some (valBox v0)) := by rw [hw1]; exact new_row _ _ (by simp only [World.size_alloc])
  have HB : Hid (Below w.heap.size w w1) := by rw [hw1]; exact below_new (below_new (Below.refl _ _) _) _
  have SZ : Hid (w1.heap.size = w.heap.size + 1 + 1) := by show _ = _; rw [hw1]; simp only [World.size_alloc]
  obtain ⟨p0_0, p0_1, p0_2, p0_3, p0_4, p0_5⟩ := expr_row R0.out
  obtain ⟨p1_0, p1_1, p1_2⟩ := valB_row R1.out
  clear hw1
  have f1 := frozen_row R1.out
  have hl : row.length = n := h.len
  have hle := h.le
  have C := Lib.hid nothing_any
  by_cases h1 : e.n < n
  · obtain ⟨b, o, x, rfl, hb, hx, hld⟩ := (h.below HB.out).val (k := e.n.toNat) (by omega)
    obtain ⟨d0, d1, d2⟩ := hld w1 (Below.refl _ _)
    have hr : Hid (colSays e row = (x, 0)) := by show _ = _; rw [colSays, if_pos (by omega), List.getD_eq_getElem?_getD, hx]; rfl
    rw [hr.out]
    have g2 : (0 : Int) ≤ e.n := h0
    have g3 : ¬ ((n : Int) ≤ e.n) := by omega
    clear h hl h0 hb hx hld hr C
    go_enter Try.func40, Try.ntmps40
    go_upto_region 1 with fail
    rw [show ((w.alloc (exprBox e)).alloc (valBox v0)) = w1 from HW.out.symm]
    clear HW
    go_wp2_with fail
    refine bodyPost_ret (v := .tuple #[(x).agg, .int .i64 0]) (results_row_tmp rfl _ _ (w.heap.size + 1) 23 _ (0, 0) _ rfl (set3 R1.out) Try.underlying23 rfl (by kernel_rfl) rfl) rfl ?_
    exact ⟨rfl, below_set3 HB.out (by omega)⟩
  · have hr : Hid (colSays e row = (v0, 4)) := by show _ = _; rw [colSays, if_neg (by omega)]
    rw [hr.out]
    have g3 : (n : Int) ≤ e.n := by omega
    clear h hl h0
    go_enter Try.func40, Try.ntmps40
    go_upto_region 1 with fail
    rw [show ((w.alloc (exprBox e)).alloc (valBox v0)) = w1 from HW.out.symm]
    clear HW
    go_wp2_with fail
    refine (C.out _).mono ?_
    rintro r w2 ⟨rfl, b2⟩
    have R2 := Lib.hid (row_below R1.out b2)
    have HB2 := Lib.hid (below_then HB.out b2)
    obtain ⟨p1_0, p1_1, p1_2⟩ := valB_row R2.out
    have f1 := frozen_row R2.out
    clear b2 p0_0 p0_1 p0_2 p0_3 p0_4 p0_5
    go_wp2_with fail
    refine bodyPost_ret (v := .tuple #[(v0).agg, .int .i64 4]) (results_row_tmp rfl _ _ (w.heap.size + 1) 23 _ (0, 0) _ rfl (set3 R2.out) Try.underlying23 rfl (by kernel_rfl) rfl) rfl ?_
    exact ⟨rfl, below_set3 HB2.out (by omega)⟩
end Go.Proofs.Ytkpkkkmokgmhfaa
