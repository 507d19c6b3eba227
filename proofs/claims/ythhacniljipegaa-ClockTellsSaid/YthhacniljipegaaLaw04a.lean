/- Whatever two stamps and two times come in: ClockTells answers true: which of two stamps is ahead, what time comes next, and whether a time may be, is as the document says. No condition. -/
import Derived.Test.YthhacniljipegaaRows
import Derived.Test.YthhacniljipegaaLaw
import Derived.Test.YthhacniljipegaaClkAwake
import Derived.Test.YthhacniljipegaaClkOpen
namespace Go.Proofs.Ythhacniljipegaa.clockTells
open Go.ChangeShapes Go.WideShapes Go.ChangeAt Go.RowKit Go.ChangeMaps

set_option maxHeartbeats 6400000 in
theorem walk (a b : S3) (k m : Int) (hk : -9223372036854775808 ≤ k ∧ k ≤ 9223372036854775807) (hm : -9223372036854775808 ≤ m ∧ m ≤ 9223372036854775807) (w : World) :
    Calls Try.prog 3 #[a.agg, b.agg, .int .i64 k, .int .i64 m] w fun e w' => e = .returned (.bool true) ∧ Below w.heap.size w w' := by
  obtain ⟨x, L1, L2⟩ : ∃ x : Bool, Hid (∀ W, Calls Try.prog 12 #[.agg #[.int .i64 a.t, .int .i64 a.d, .int .i64 a.q], .agg #[.int .i64 b.t, .int .i64 b.d, .int .i64 b.q]] W fun e w' => e = .returned (.bool x) ∧ Below W.heap.size W w') ∧ Hid (∀ W, Calls Try.prog 13 #[.agg #[.int .i64 a.t, .int .i64 a.d, .int .i64 a.q], .agg #[.int .i64 b.t, .int .i64 b.d, .int .i64 b.q]] W fun e w' => e = .returned (.bool x) ∧ Below W.heap.size W w') :=
    ⟨_, Lib.hid fun W => clkLess_any a b W, Lib.hid fun W => refClkLess_any a b W⟩
  obtain ⟨t, f, N1, N2⟩ : ∃ t f : Int, Hid (∀ W, Calls Try.prog 10 #[.int .i64 k, .int .i64 m] W fun e w' => e = .returned (.tuple #[.int .i64 t, .int .i64 f]) ∧ w' = W) ∧ Hid (∀ W, Calls Try.prog 11 #[.int .i64 k, .int .i64 m] W fun e w' => e = .returned (.tuple #[.int .i64 t, .int .i64 f]) ∧ w' = W) :=
    ⟨_, _, Lib.hid fun W => clkNext_any k m W hk hm, Lib.hid fun W => refClkNext_any k m W⟩
  obtain ⟨r, R1, R2⟩ : ∃ r : Int, Hid (∀ W, Calls Try.prog 14 #[.int .i64 m, .int .i64 k] W fun e w' => e = .returned (.int .i64 r) ∧ w' = W) ∧ Hid (∀ W, Calls Try.prog 15 #[.int .i64 m, .int .i64 k] W fun e w' => e = .returned (.int .i64 r) ∧ w' = W) :=
    ⟨_, Lib.hid fun W => clkRight_any m k W, Lib.hid fun W => refClkRight_any m k W⟩
  clear hk hm
  obtain ⟨at_, ad, aq⟩ := a
  obtain ⟨bt, bd, bq⟩ := b
  simp only at L1 L2
  obtain ⟨w0, hw0⟩ : ∃ w0, w0 = (w.alloc (Obj.cells #[.int .i64 at_, .int .i64 ad, .int .i64 aq] 23)).alloc (Obj.cells #[.int .i64 bt, .int .i64 bd, .int .i64 bq] 23) := ⟨_, rfl⟩
  have B0 : Below w.heap.size w w0 := by rw [hw0]; exact below_new (below_new (Below.refl _ _) _) _
  have Q0 : Hid (w0.heap[w.heap.size]? = some (.cells #[.int .i64 at_, .int .i64 ad, .int .i64 aq] 23)) := by
    show _ = _
    rw [hw0]; exact heap_past (by simp) (heap_at rfl)
  have Q1 : Hid (w0.heap[w.heap.size + 1]? = some (.cells #[.int .i64 bt, .int .i64 bd, .int .i64 bq] 23)) := by
    show _ = _
    rw [hw0]; exact heap_at (by simp)
  go_enter Try.func3, Try.ntmps3
  go_wp2_with fail
  rw [← hw0]
  clear hw0
  refine (clkAwake_any _).mono ?_
  rintro e w1 ⟨rfl, b1⟩
  have B1 := below_then B0 b1
  have Q0 := Lib.hid (row_below Q0.out b1)
  have Q1 := Lib.hid (row_below Q1.out b1)
  go_wp2_with fail
  refine (N1.out _).mono ?_
  rintro e w2 ⟨rfl, rfl⟩
  go_wp2_with fail
  refine (N2.out _).mono ?_
  rintro e w2 ⟨rfl, rfl⟩
  obtain ⟨c0, c1, c2⟩ := stamp_at Q0.out
  obtain ⟨d0, d1, d2⟩ := stamp_at Q1.out
  have hbd := B1.drew
  cases x
  all_goals
    go_wp2_with fail
    go_region_held3 (fun W => Below w.heap.size w W ∧ W.cell? ⟨w.heap.size, 0, none⟩ = some (.int .i64 at_) ∧ W.cell? ⟨w.heap.size, 1, none⟩ = some (.int .i64 ad) ∧ W.cell? ⟨w.heap.size, 2, none⟩ = some (.int .i64 aq) ∧ W.cell? ⟨w.heap.size + 1, 0, none⟩ = some (.int .i64 bt) ∧ W.cell? ⟨w.heap.size + 1, 1, none⟩ = some (.int .i64 bd) ∧ W.cell? ⟨w.heap.size + 1, 2, none⟩ = some (.int .i64 bq))
      (first
        | (go_split_ands
           refine ⟨?_, ?_, ?_, ?_, ?_, ?_, ?_⟩
           · exact below_then (by assumption) bb
           all_goals exact (bb.cell (World.block_lt_of_cell? _ _ (by assumption))).trans (by assumption))
        | (go_split_ands
           refine ⟨?_, ?_, ?_, ?_, ?_, ?_, ?_⟩
           all_goals assumption)
        | (go_split_ands
           refine ⟨?_, ?_, ?_, ?_, ?_, ?_, ?_⟩
           · exact Below.drew (by assumption)
           all_goals (show World.cell? _ _ = _; assumption)))
      (first
        | (go_at_call 12; refine (L1.out _).mono ?_; rintro e wx ⟨rfl, bb⟩)
        | (go_at_call 13; refine (L2.out _).mono ?_; rintro e wy ⟨rfl, bb⟩)
        | (go_at_call 14; refine (R1.out _).mono ?_; rintro e wz ⟨rfl, rfl⟩)
        | (go_at_call 15; refine (R2.out _).mono ?_; rintro e wz ⟨rfl, rfl⟩))
    all_goals
      go_wp2
      go_ret
      go_split_ands
      exact ⟨rfl, by assumption⟩

theorem contract (H : Type) (enc : TypeId × Value → H) (W : World) (base : Nat) (args : Array Value) (ds gs : List (DataW H)) (before : List MemPlace)
    (hval : ∀ (j : Nat) t v, Try.f3.params[j]? = some t → args[j]? = some v → Value.okWide Try.prog W .any base t v)
    (hW : DataW.Whole enc Try.prog Try.f3.params.toList Rows.clockTellsSpec.vars false W args.toList ds gs before) :
    Calls Try.prog 3 args W fun e W' => ∃ v, e = .returned v ∧ Rows.clockTellsSpec.post enc Try.prog Try.f3 false true false false W args v W' := by
  have hlt : ∀ x ∈ before, x.block < W.heap.size := fun x hx => by simpa using hW.lt x hx
  refine law_step 4 Try.laid_ (by kernel_rfl) rfl Try.underlying4 rfl hW (fun xs hx => ?_) ?_
  · match xs, hx with
    | [d0, d1, d2, d3], _ => rfl
  · obtain ⟨p, q, hA0, hV, rfl, _, _⟩ := hW
    have hA : DataW.TrodAll enc Try.prog W 0 (fun _ => true) true Try.f3.params.toList args.toList ds p := hA0
    rw [Try.params3] at hA hval
    obtain ⟨v0, vs0, d0, ds0, p0, q0, e0, rfl, rfl, h0, r0⟩ := trodAll_cons hA
    obtain ⟨v1, vs1, d1, ds1, p1, q1, e1, rfl, rfl, h1, r1⟩ := trodAll_cons r0
    obtain ⟨v2, vs2, d2, ds2, p2, q2, e2, rfl, rfl, h2, r2⟩ := trodAll_cons r1
    obtain ⟨v3, vs3, d3, ds3, p3, q3, e3, rfl, rfl, h3, r3⟩ := trodAll_cons r2
    obtain ⟨rfl, rfl, rfl⟩ := trodAll_nil r3
    subst e3
    subst e2
    subst e1
    obtain rfl : args = #[v0, v1, v2, v3] := by cases args; simp_all
    clear e0 hA0
    obtain ⟨x0, rfl, wf0⟩ := open_stamp (hval 0 23 v0 rfl rfl) h0
    obtain ⟨x1, rfl, wf1⟩ := open_stamp (hval 1 23 v1 rfl rfl) h1
    obtain ⟨k, rfl, rfl, rfl, w2⟩ := open_int Try.underlying3 (hval 2 3 v2 rfl rfl) h2
    obtain ⟨lo2, hi2⟩ := wf_i64 w2
    obtain ⟨m, rfl, rfl, rfl, w3⟩ := open_int Try.underlying3 (hval 3 3 v3 rfl rfl) h3
    obtain ⟨lo3, hi3⟩ := wf_i64 w3
    exact walk x0 x1 k m ⟨lo2, hi2⟩ ⟨lo3, hi3⟩ W

set_option maxRecDepth 100000 in
theorem lifted (os : Os) (started : os.Started) (H : Type) (enc : TypeId × Value → H) :
    ReturnsInHanded {} Try.checked os 3 .any (Rows.clockTellsSpec.pre6 enc Try.prog Try.f3 Rows.clockTellsRow.domain false) (Rows.clockTellsSpec.post enc Try.prog Try.f3 false true false false) := by
  refine returnsInHanded_of_change (C := Try.checked) Try.own_ started (by kernel_rfl) Try.func3
    (ChangeSpec.witness6 (enc := enc) (C := Try.checked) false ⟨#[], #[.agg #[.int .i64 0, .int .i64 0, .int .i64 0], .agg #[.int .i64 0, .int .i64 0, .int .i64 0], .int .i64 0, .int .i64 0], []⟩ 8 (by kernel_rfl) (by kernel_rfl) (by kernel_rfl) (by kernel_rfl)) ?_
  intro W base args ds gs before hval hW _ _
  exact contract H enc W base args ds gs before hval hW

theorem holds : Rows.ClockTellsSaid :=
  OpenClaim.holds_of_wide 3 Try.f3 rfl rfl rfl rfl rfl rfl rfl ⟨rfl, rfl, rfl, rfl, rfl⟩ rfl rfl rfl rfl rfl (by kernel_rfl) Try.func3 (by kernel_rfl)
    (of_decide_eq_true (by kernel_rfl)) (by unfold Func.isWrapper; first | (rw [if_pos (by decide +kernel)]; kernel_rfl) | (rw [if_neg (by decide +kernel)]; exact ⟨rfl, rfl⟩))
    (fun os started H enc _ => lifted os started H enc)
end Go.Proofs.Ythhacniljipegaa.clockTells
