/- Whatever times come in: ClockWithin answers true: between two times that are right behind something all are. No condition. -/
import Derived.Test.YthhacniljipegaaRows
import Derived.Test.YthhacniljipegaaLaw
import Derived.Test.YthhacniljipegaaClkAwake
import Derived.Test.YthhacniljipegaaClkTells
namespace Go.Proofs.Ythhacniljipegaa.clockWithin
open Go.ChangeShapes Go.WideShapes Go.ChangeAt Go.RowKit Go.ChangeMaps

theorem right_end (a b c p : Int) (hab : a ≤ b) (hbc : b ≤ c) : (rightT a p ≠ 0 ∨ rightT c p ≠ 0 ∨ rightT b p = 0) ∧ (rightT b p ≠ 0 ∨ a ≤ p ∨ rightT a p = 0) := by
  rcases right_cases a p with h | h | h | h | h <;> rcases right_cases b p with g | g | g | g | g <;> rcases right_cases c p with k | k | k | k | k <;> omega

set_option maxHeartbeats 6400000 in
theorem walk (a b c p : Int) (w : World) :
    Calls Try.prog 7 #[.int .i64 a, .int .i64 b, .int .i64 c, .int .i64 p] w fun e w' => e = .returned (.bool true) ∧ Below w.heap.size w w' := by
  by_cases hab : a ≤ b
  · have h1 : ¬ b < a := by omega
    by_cases hbc : b ≤ c
    · have h2 : ¬ c < b := by omega
      obtain ⟨h3, h4⟩ := right_end a b c p hab hbc
      obtain ⟨x, X, hx⟩ : ∃ x : Int, Hid (∀ W, Calls Try.prog 14 #[.int .i64 a, .int .i64 p] W fun e w' => e = .returned (.int .i64 x) ∧ w' = W) ∧ rightT a p = x := ⟨_, Lib.hid fun W => clkRight_any a p W, rfl⟩
      obtain ⟨y, Y, hy⟩ : ∃ x : Int, Hid (∀ W, Calls Try.prog 14 #[.int .i64 b, .int .i64 p] W fun e w' => e = .returned (.int .i64 x) ∧ w' = W) ∧ rightT b p = x := ⟨_, Lib.hid fun W => clkRight_any b p W, rfl⟩
      obtain ⟨z, Z, hz⟩ : ∃ x : Int, Hid (∀ W, Calls Try.prog 14 #[.int .i64 c, .int .i64 p] W fun e w' => e = .returned (.int .i64 x) ∧ w' = W) ∧ rightT c p = x := ⟨_, Lib.hid fun W => clkRight_any c p W, rfl⟩
      rw [hx, hy, hz] at h3
      rw [hx, hy] at h4
      have H3 := Lib.hid h3; have H4 := Lib.hid h4
      clear hx hy hz h3 h4 hab hbc
      have key : ∃ xb yb zb ap : Bool, Hid ((x == 0) = xb) ∧ Hid ((y == 0) = yb) ∧ Hid ((z == 0) = zb) ∧ Hid (decide (a ≤ p) = ap) ∧ Hid ((!xb || !zb || yb) = true ∧ (!yb || ap || xb) = true) := by
        refine ⟨_, _, _, _, rfl, rfl, rfl, rfl, Lib.hid ?_⟩
        have h3 := H3.out; have h4 := H4.out
        by_cases hx : x = 0 <;> by_cases hy : y = 0 <;> by_cases hz : z = 0 <;> by_cases ha : a ≤ p <;> simp [hx, hy, hz, ha] at h3 h4 ⊢
      obtain ⟨xb, yb, zb, ap, hx, hy, hz, ha, hk⟩ := key
      have G : ∀ (t : Int) (tb : Bool), (t == 0) = tb → (t != 0) = !tb := fun t tb h => by rw [bne, h]
      have hxn := Lib.hid (G _ _ hx.out); have hyn := Lib.hid (G _ _ hy.out); have hzn := Lib.hid (G _ _ hz.out)
      clear G H3 H4
      cases xb <;> cases yb <;> cases zb <;> cases ap <;> first | (exfalso; have := hk.out; simp at this; done) | skip
      all_goals
        have ex := hx.out; have ey := hy.out; have ez := hz.out; have ea := ha.out
        have exn := hxn.out; have eyn := hyn.out; have ezn := hzn.out
        simp only [Bool.not_true, Bool.not_false] at exn eyn ezn
        clear hx hy hz ha hk hxn hyn hzn
        go_enter Try.func7, Try.ntmps7
        go_wp2_with fail
        refine (clkAwake_any _).mono ?_
        rintro e w1 ⟨rfl, b1⟩
        go_wp2_with fail
        refine (X.out _).mono ?_
        rintro e w2 ⟨rfl, rfl⟩
        go_wp2_with fail
        refine (Y.out _).mono ?_
        rintro e w3 ⟨rfl, rfl⟩
        go_wp2_with fail
        refine (Z.out _).mono ?_
        rintro e w4 ⟨rfl, rfl⟩
        go_wp2
        go_ret
        exact ⟨rfl, b1⟩
    · have h2 : c < b := by omega
      go_enter Try.func7, Try.ntmps7
      go_wp2_with fail
      refine (clkAwake_any _).mono ?_
      rintro e w1 ⟨rfl, b1⟩
      go_wp2
      go_ret
      exact ⟨rfl, b1⟩
  · have h1 : b < a := by omega
    go_enter Try.func7, Try.ntmps7
    go_wp2_with fail
    refine (clkAwake_any _).mono ?_
    rintro e w1 ⟨rfl, b1⟩
    go_wp2
    go_ret
    exact ⟨rfl, b1⟩

theorem contract (H : Type) (enc : TypeId × Value → H) (W : World) (base : Nat) (args : Array Value) (ds gs : List (DataW H)) (before : List MemPlace)
    (hval : ∀ (j : Nat) t v, Try.f7.params[j]? = some t → args[j]? = some v → Value.okWide Try.prog W .any base t v)
    (hW : DataW.Whole enc Try.prog Try.f7.params.toList Rows.clockWithinSpec.vars false W args.toList ds gs before) :
    Calls Try.prog 7 args W fun e W' => ∃ v, e = .returned v ∧ Rows.clockWithinSpec.post enc Try.prog Try.f7 false true false false W args v W' := by
  have hlt : ∀ x ∈ before, x.block < W.heap.size := fun x hx => by simpa using hW.lt x hx
  refine law_step 4 Try.laid_ (by kernel_rfl) rfl Try.underlying4 rfl hW (fun xs hx => ?_) ?_
  · match xs, hx with
    | [d0, d1, d2, d3], _ => rfl
  · obtain ⟨p, q, hA0, hV, rfl, _, _⟩ := hW
    have hA : DataW.TrodAll enc Try.prog W 0 (fun _ => true) true Try.f7.params.toList args.toList ds p := hA0
    rw [Try.params7] at hA hval
    obtain ⟨v0, vs0, d0, ds0, p0, q0, e0, rfl, rfl, h0, r0⟩ := trodAll_cons hA
    obtain ⟨v1, vs1, d1, ds1, p1, q1, e1, rfl, rfl, h1, r1⟩ := trodAll_cons r0
    obtain ⟨v2, vs2, d2, ds2, p2, q2, e2, rfl, rfl, h2, r2⟩ := trodAll_cons r1
    obtain ⟨v3, vs3, d3, ds3, p3, q3, e3, rfl, rfl, h3, r3⟩ := trodAll_cons r2
    obtain ⟨rfl, rfl, rfl⟩ := trodAll_nil r3
    subst e3
    subst e2
    subst e1
    obtain rfl : args = #[v0, v1, v2, v3] := by cases args; simp_all
    clear e0 hA0
    obtain ⟨a, rfl, rfl, rfl, w0⟩ := open_int Try.underlying3 (hval 0 3 v0 rfl rfl) h0
    obtain ⟨lo0, hi0⟩ := wf_i64 w0
    obtain ⟨b, rfl, rfl, rfl, w1⟩ := open_int Try.underlying3 (hval 1 3 v1 rfl rfl) h1
    obtain ⟨lo1, hi1⟩ := wf_i64 w1
    obtain ⟨c, rfl, rfl, rfl, w2⟩ := open_int Try.underlying3 (hval 2 3 v2 rfl rfl) h2
    obtain ⟨lo2, hi2⟩ := wf_i64 w2
    obtain ⟨p, rfl, rfl, rfl, w3⟩ := open_int Try.underlying3 (hval 3 3 v3 rfl rfl) h3
    obtain ⟨lo3, hi3⟩ := wf_i64 w3
    exact walk a b c p W

set_option maxRecDepth 100000 in
theorem lifted (os : Os) (started : os.Started) (H : Type) (enc : TypeId × Value → H) :
    ReturnsInHanded {} Try.checked os 7 .any (Rows.clockWithinSpec.pre6 enc Try.prog Try.f7 Rows.clockWithinRow.domain false) (Rows.clockWithinSpec.post enc Try.prog Try.f7 false true false false) := by
  refine returnsInHanded_of_change (C := Try.checked) Try.own_ started (by kernel_rfl) Try.func7
    (ChangeSpec.witness6 (enc := enc) (C := Try.checked) false ⟨#[], #[.int .i64 0, .int .i64 0, .int .i64 0, .int .i64 0], []⟩ 8 (by kernel_rfl) (by kernel_rfl) (by kernel_rfl) (by kernel_rfl)) ?_
  intro W base args ds gs before hval hW _ _
  exact contract H enc W base args ds gs before hval hW

theorem holds : Rows.ClockWithinSaid :=
  OpenClaim.holds_of_wide 7 Try.f7 rfl rfl rfl rfl rfl rfl rfl ⟨rfl, rfl, rfl, rfl, rfl⟩ rfl rfl rfl rfl rfl (by kernel_rfl) Try.func7 (by kernel_rfl)
    (of_decide_eq_true (by kernel_rfl)) (by unfold Func.isWrapper; first | (rw [if_pos (by decide +kernel)]; kernel_rfl) | (rw [if_neg (by decide +kernel)]; exact ⟨rfl, rfl⟩))
    (fun os started H enc _ => lifted os started H enc)
end Go.Proofs.Ythhacniljipegaa.clockWithin
