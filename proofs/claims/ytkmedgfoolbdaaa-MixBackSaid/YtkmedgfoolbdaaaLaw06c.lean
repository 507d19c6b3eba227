/- Whatever two numbers come in: MixBack answers true: there and back, and back and there, each is what it was; unlike ones are mixed to unlike ones. No condition. -/
import Derived.Test.YtkmedgfoolbdaaaRows
import Derived.Test.YtkmedgfoolbdaaaLaw
import Derived.Test.YtkmedgfoolbdaaaMixAwake
namespace Go.Proofs.Ytkmedgfoolbdaaa.mixBack
open Go.ChangeShapes Go.WideShapes Go.ChangeAt Go.RowKit Go.ChangeMaps

set_option maxRecDepth 100000 in
set_option maxHeartbeats 6400000 in
theorem walk (a b : Int) (a0 : 0 ≤ a) (a1 : a ≤ 18446744073709551615) (b0 : 0 ≤ b) (b1 : b ≤ 18446744073709551615) (w : World) :
    Calls Try.prog 5 #[.int .u64 a, .int .u64 b] w fun e w' => e = .returned (.bool true) ∧ Below w.heap.size w w' := by
  obtain ⟨A, hA⟩ := word_of a0 a1
  obtain ⟨B, hB⟩ := word_of b0 b1
  obtain ⟨r, hr⟩ : ∃ r, Hid (wd (ofW A) = r) := ⟨_, rfl⟩
  obtain ⟨s, hs⟩ : ∃ s, Hid (wd (backW A) = s) := ⟨_, rfl⟩
  clear a0 a1 b0 b1
  by_cases hab : A = B
  · obtain rfl : a = b := by rw [← hA.out, ← hB.out, hab]
    clear hab
    go_enter Try.func5, Try.ntmps5
    go_wp2_with fail
    refine (mixAwake_any _).mono ?_
    rintro e w1 ⟨rfl, b1⟩
    have B1 := Lib.hid b1
    clear b1
    go_wp2_with fail
    refine (mixOf_is rfl hA.out hr.out _).mono ?_
    rintro e w2 ⟨rfl, b2⟩
    have B2 := Lib.hid (below_then B1.out b2)
    clear b2
    go_wp2_with fail
    refine (mixBack_is (back_of A) hr.out hA.out _).mono ?_
    rintro e w3 ⟨rfl, b3⟩
    have B3 := Lib.hid (below_then B2.out b3)
    clear b3
    go_wp2_with fail
    refine (mixBack_is rfl hA.out hs.out _).mono ?_
    rintro e w4 ⟨rfl, b4⟩
    have B4 := Lib.hid (below_then B3.out b4)
    clear b4
    go_wp2_with fail
    refine (mixOf_is (of_back A) hs.out hA.out _).mono ?_
    rintro e w5 ⟨rfl, b5⟩
    have B5 := Lib.hid (below_then B4.out b5)
    clear b5
    go_wp2_with fail
    refine (mixOf_is rfl hA.out hr.out _).mono ?_
    rintro e w6 ⟨rfl, b6⟩
    have B6 := Lib.hid (below_then B5.out b6)
    clear b6
    go_wp2_with fail
    refine (mixOf_is rfl hA.out hr.out _).mono ?_
    rintro e w7 ⟨rfl, b7⟩
    have B7 := Lib.hid (below_then B6.out b7)
    clear b7
    go_wp2
    go_ret
    exact ⟨rfl, B7.out⟩
  · obtain ⟨q, hq⟩ : ∃ q, Hid (wd (ofW B) = q) := ⟨_, rfl⟩
    have hne := wd_ne hab hA.out hB.out
    have hno := wd_ne (fun h => hab (of_inj.1 h)) hr.out hq.out
    clear hab
    go_enter Try.func5, Try.ntmps5
    go_wp2_with fail
    refine (mixAwake_any _).mono ?_
    rintro e w1 ⟨rfl, b1⟩
    have B1 := Lib.hid b1
    clear b1
    go_wp2_with fail
    refine (mixOf_is rfl hA.out hr.out _).mono ?_
    rintro e w2 ⟨rfl, b2⟩
    have B2 := Lib.hid (below_then B1.out b2)
    clear b2
    go_wp2_with fail
    refine (mixBack_is (back_of A) hr.out hA.out _).mono ?_
    rintro e w3 ⟨rfl, b3⟩
    have B3 := Lib.hid (below_then B2.out b3)
    clear b3
    go_wp2_with fail
    refine (mixBack_is rfl hA.out hs.out _).mono ?_
    rintro e w4 ⟨rfl, b4⟩
    have B4 := Lib.hid (below_then B3.out b4)
    clear b4
    go_wp2_with fail
    refine (mixOf_is (of_back A) hs.out hA.out _).mono ?_
    rintro e w5 ⟨rfl, b5⟩
    have B5 := Lib.hid (below_then B4.out b5)
    clear b5
    go_wp2_with fail
    refine (mixOf_is rfl hA.out hr.out _).mono ?_
    rintro e w6 ⟨rfl, b6⟩
    have B6 := Lib.hid (below_then B5.out b6)
    clear b6
    go_wp2_with fail
    refine (mixOf_is rfl hB.out hq.out _).mono ?_
    rintro e w7 ⟨rfl, b7⟩
    have B7 := Lib.hid (below_then B6.out b7)
    clear b7
    go_wp2
    go_ret
    exact ⟨rfl, B7.out⟩

theorem contract (H : Type) (enc : TypeId × Value → H) (W : World) (base : Nat) (args : Array Value) (ds gs : List (DataW H)) (before : List MemPlace)
    (hval : ∀ (j : Nat) t v, Try.f5.params[j]? = some t → args[j]? = some v → Value.okWide Try.prog W .any base t v)
    (hW : DataW.Whole enc Try.prog Try.f5.params.toList Rows.mixBackSpec.vars false W args.toList ds gs before) :
    Calls Try.prog 5 args W fun e W' => ∃ v, e = .returned v ∧ Rows.mixBackSpec.post enc Try.prog Try.f5 false true false false W args v W' := by
  have hlt : ∀ x ∈ before, x.block < W.heap.size := fun x hx => by simpa using hW.lt x hx
  refine law_step 4 Try.laid_ (by kernel_rfl) rfl Try.underlying4 rfl hW (fun xs hx => ?_) ?_
  · match xs, hx with
    | [d0, d1], _ => rfl
  · obtain ⟨p, q, hA0, hV, rfl, _, _⟩ := hW
    have hA : DataW.TrodAll enc Try.prog W 0 (fun _ => true) true Try.f5.params.toList args.toList ds p := hA0
    rw [Try.params5] at hA hval
    obtain ⟨v0, vs0, d0, ds0, p0, q0, e0, rfl, rfl, h0, r0⟩ := trodAll_cons hA
    obtain ⟨v1, vs1, d1, ds1, p1, q1, e1, rfl, rfl, h1, r1⟩ := trodAll_cons r0
    obtain ⟨rfl, rfl, rfl⟩ := trodAll_nil r1
    subst e1
    obtain rfl : args = #[v0, v1] := by cases args; simp_all
    clear e0 hA0
    obtain ⟨a, rfl, rfl, rfl, w0⟩ := open_int Try.underlying22 (hval 0 22 v0 rfl rfl) h0
    obtain ⟨lo0, hi0⟩ := wf_u64r w0
    obtain ⟨b, rfl, rfl, rfl, w1⟩ := open_int Try.underlying22 (hval 1 22 v1 rfl rfl) h1
    obtain ⟨lo1, hi1⟩ := wf_u64r w1
    exact walk a b lo0 hi0 lo1 hi1 W

set_option maxRecDepth 100000 in
theorem lifted (os : Os) (started : os.Started) (H : Type) (enc : TypeId × Value → H) :
    ReturnsInHanded {} Try.checked os 5 .any (Rows.mixBackSpec.pre6 enc Try.prog Try.f5 Rows.mixBackRow.domain false) (Rows.mixBackSpec.post enc Try.prog Try.f5 false true false false) := by
  refine returnsInHanded_of_change (C := Try.checked) Try.own_ started (by kernel_rfl) Try.func5
    (ChangeSpec.witness6 (enc := enc) (C := Try.checked) false ⟨#[], #[.int .u64 0, .int .u64 0], []⟩ 8 (by kernel_rfl) (by kernel_rfl) (by kernel_rfl) (by kernel_rfl)) ?_
  intro W base args ds gs before hval hW _ _
  exact contract H enc W base args ds gs before hval hW

theorem holds : Rows.MixBackSaid :=
  OpenClaim.holds_of_wide 5 Try.f5 rfl rfl rfl rfl rfl rfl rfl ⟨rfl, rfl, rfl, rfl, rfl⟩ rfl rfl rfl rfl rfl (by kernel_rfl) Try.func5 (by kernel_rfl)
    (of_decide_eq_true (by kernel_rfl)) (by unfold Func.isWrapper; first | (rw [if_pos (by decide +kernel)]; kernel_rfl) | (rw [if_neg (by decide +kernel)]; exact ⟨rfl, rfl⟩))
    (fun os started H enc _ => lifted os started H enc)
end Go.Proofs.Ytkmedgfoolbdaaa.mixBack
