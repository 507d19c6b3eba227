/- Whatever stamps come in: ClockOrders answers true: the order of any stamps is as the document says. No condition. -/
import Derived.Test.YthhacniljipegaaRows
import Derived.Test.YthhacniljipegaaLaw
import Derived.Test.YthhacniljipegaaClkAwake
import Derived.Test.YthhacniljipegaaClkRefOrd
import Derived.Test.YthhacniljipegaaClkOpen
namespace Go.Proofs.Ythhacniljipegaa.clockOrders
open Go.ChangeShapes Go.WideShapes Go.ChangeAt Go.RowKit Go.ChangeMaps

set_option maxHeartbeats 6400000 in
theorem walk (A : Option Addr) (n c : Nat) (l : List S3) (w : World) (h : RdS w A n c l) :
    Calls Try.prog 4 #[.slice A n c] w fun e w' => e = .returned (.bool true) ∧ Below w.heap.size w w' := by
  have hle := h.le
  have HH := Lib.hid h
  clear h
  by_cases hn : n ≤ 60
  · have hnz : ¬ (60 : Int) < (n : Int) := by omega
    obtain ⟨z, hz, O1, O2⟩ : ∃ z : List Int, Hid (z.length = n) ∧ Hid (∀ W, Below w.heap.size w W → Calls Try.prog 17 #[.slice A n c] W fun e w' => ∃ A' c', e = .returned (.slice A' n c') ∧ Rd w' A' n c' (vals .i64 z) ∧ Below W.heap.size W w') ∧
        Hid (∀ W, Below w.heap.size w W → Calls Try.prog 18 #[.slice A n c] W fun e w' => ∃ A' c', e = .returned (.slice A' n c') ∧ Rd w' A' n c' (vals .i64 z) ∧ Below W.heap.size W w') :=
      ⟨ordZ l, by show _ = _; rw [ordZ_len]; exact HH.out.len, Lib.hid fun W hW => clkOrder_any A n c l W (HH.out.below hW) (by omega), Lib.hid fun W hW => refClkOrder_any A n c l W (HH.out.below hW) (by omega)⟩
    go_enter Try.func4, Try.ntmps4
    go_wp2_with fail
    refine (clkAwake_any _).mono ?_
    rintro e w1 ⟨rfl, b1⟩
    go_wp2_with fail
    refine (O1.out _ b1).mono ?_
    rintro e w2 ⟨A2, c2, rfl, r2, b2⟩
    have B2 := below_then b1 b2
    have R2 := Lib.hid r2
    clear r2
    go_wp2_with fail
    refine (O2.out _ B2).mono ?_
    rintro e w3 ⟨A3, c3, rfl, r3, b3⟩
    have B3 := below_then B2 b3
    have R2 := Lib.hid (R2.out.below b3)
    have R3 := Lib.hid r3
    clear r3
    go_wp2_with fail
    refine (clkSame_any _ _ _ _ _ _ _ _ _ R2.out R3.out).mono ?_
    rintro e w4 ⟨rfl, q4⟩
    have B4 := below_quiet B3 q4
    have hd : decide (z = z) = true := by simp
    go_wp2
    go_ret
    exact ⟨by simp, B4⟩
  · have hnz : (60 : Int) < (n : Int) := by omega
    go_enter Try.func4, Try.ntmps4
    go_wp2_with fail
    refine (clkAwake_any _).mono ?_
    rintro e w1 ⟨rfl, b1⟩
    go_wp2
    go_ret
    exact ⟨rfl, b1⟩

theorem contract (H : Type) (enc : TypeId × Value → H) (W : World) (base : Nat) (args : Array Value) (ds gs : List (DataW H)) (before : List MemPlace)
    (hval : ∀ (j : Nat) t v, Try.f4.params[j]? = some t → args[j]? = some v → Value.okWide Try.prog W .any base t v)
    (hW : DataW.Whole enc Try.prog Try.f4.params.toList Rows.clockOrdersSpec.vars false W args.toList ds gs before) :
    Calls Try.prog 4 args W fun e W' => ∃ v, e = .returned v ∧ Rows.clockOrdersSpec.post enc Try.prog Try.f4 false true false false W args v W' := by
  have hlt : ∀ x ∈ before, x.block < W.heap.size := fun x hx => by simpa using hW.lt x hx
  refine law_step 4 Try.laid_ (by kernel_rfl) rfl Try.underlying4 rfl hW (fun xs hx => ?_) ?_
  · match xs, hx with
    | [d0], _ => rfl
  · obtain ⟨p, q, hA0, hV, rfl, _, _⟩ := hW
    have hA : DataW.TrodAll enc Try.prog W 0 (fun _ => true) true Try.f4.params.toList args.toList ds p := hA0
    rw [Try.params4] at hA hval
    obtain ⟨v0, vs0, d0, ds0, p0, q0, e0, rfl, rfl, h0, r0⟩ := trodAll_cons hA
    obtain ⟨rfl, rfl, rfl⟩ := trodAll_nil r0
    obtain rfl : args = #[v0] := by cases args; simp_all
    clear e0 hA0
    obtain ⟨A0, n0, c0, l, rfl, rd0, wf0⟩ := open_stamps (hval 0 31 v0 rfl rfl) h0
    exact walk A0 n0 c0 l W rd0

set_option maxRecDepth 100000 in
theorem lifted (os : Os) (started : os.Started) (H : Type) (enc : TypeId × Value → H) :
    ReturnsInHanded {} Try.checked os 4 .any (Rows.clockOrdersSpec.pre6 enc Try.prog Try.f4 Rows.clockOrdersRow.domain false) (Rows.clockOrdersSpec.post enc Try.prog Try.f4 false true false false) := by
  refine returnsInHanded_of_change (C := Try.checked) Try.own_ started (by kernel_rfl) Try.func4
    (ChangeSpec.witness6 (enc := enc) (C := Try.checked) false ⟨#[], #[.slice none 0 0], []⟩ 8 (by kernel_rfl) (by kernel_rfl) (by kernel_rfl) (by kernel_rfl)) ?_
  intro W base args ds gs before hval hW _ _
  exact contract H enc W base args ds gs before hval hW

theorem holds : Rows.ClockOrdersSaid :=
  OpenClaim.holds_of_wide 4 Try.f4 rfl rfl rfl rfl rfl rfl rfl ⟨rfl, rfl, rfl, rfl, rfl⟩ rfl rfl rfl rfl rfl (by kernel_rfl) Try.func4 (by kernel_rfl)
    (of_decide_eq_true (by kernel_rfl)) (by unfold Func.isWrapper; first | (rw [if_pos (by decide +kernel)]; kernel_rfl) | (rw [if_neg (by decide +kernel)]; exact ⟨rfl, rfl⟩))
    (fun os started H enc _ => lifted os started H enc)
end Go.Proofs.Ythhacniljipegaa.clockOrders
