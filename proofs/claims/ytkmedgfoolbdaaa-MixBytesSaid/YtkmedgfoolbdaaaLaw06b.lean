/- Whatever number and bytes come in: MixBytes answers true: what any bytes are mixed to, behind any number, and their sum, is as the document says. No condition. -/
import Derived.Test.YtkmedgfoolbdaaaRows
import Derived.Test.YtkmedgfoolbdaaaLaw
import Derived.Test.YtkmedgfoolbdaaaMixAwake
namespace Go.Proofs.Ytkmedgfoolbdaaa.mixBytes
open Go.ChangeShapes Go.WideShapes Go.ChangeAt Go.RowKit Go.ChangeMaps

set_option maxRecDepth 100000 in
set_option maxHeartbeats 6400000 in
theorem walk (c : Int) (c0 : 0 ≤ c) (c1 : c ≤ 18446744073709551615) (A : Option Addr) (n d : Nat) (l : List Int) (w : World) (h : Rd w A n d (vals .u8 l)) (hu : Bytes l) :
    Calls Try.prog 4 #[.int .u64 c, .slice A n d] w fun e w' => e = .returned (.bool true) ∧ Below w.heap.size w w' := by
  obtain ⟨C, hC⟩ := word_of c0 c1
  obtain ⟨r, hr⟩ : ∃ r, Hid (wd (thenW C l) = r) := ⟨_, rfl⟩
  obtain ⟨s, hs⟩ : ∃ s, Hid (wd (sumW l) = s) := ⟨_, rfl⟩
  have R := Lib.hid h; have U := Lib.hid hu
  clear c0 c1 h hu
  by_cases hz : (300 : Int) < (n : Int)
  · go_enter Try.func4, Try.ntmps4
    go_wp2_with fail
    refine (mixAwake_any _).mono ?_
    rintro e w1 ⟨rfl, b1⟩
    replace R := Lib.hid (R.out.below b1)
    have B1 := Lib.hid b1
    clear b1
    go_wp2
    go_ret
    exact ⟨rfl, B1.out⟩
  · go_enter Try.func4, Try.ntmps4
    go_wp2_with fail
    refine (mixAwake_any _).mono ?_
    rintro e w1 ⟨rfl, b1⟩
    replace R := Lib.hid (R.out.below b1)
    have B1 := Lib.hid b1
    clear b1
    go_wp2_with fail
    refine (mixThen_is rfl hC.out hr.out R.out U.out).mono ?_
    rintro e w2 ⟨rfl, b2⟩
    replace R := Lib.hid (R.out.below b2)
    have B2 := Lib.hid (below_then B1.out b2)
    clear b2
    go_wp2_with fail
    refine (refMixThen_is rfl hC.out hr.out R.out U.out).mono ?_
    rintro e w3 ⟨rfl, b3⟩
    replace R := Lib.hid (R.out.below b3)
    have B3 := Lib.hid (below_then B2.out b3)
    clear b3
    go_wp2_with fail
    refine (mixSum_is rfl hs.out R.out U.out).mono ?_
    rintro e w4 ⟨rfl, b4⟩
    replace R := Lib.hid (R.out.below b4)
    have B4 := Lib.hid (below_then B3.out b4)
    clear b4
    go_wp2_with fail
    refine (refMixSum_is rfl hs.out R.out U.out).mono ?_
    rintro e w5 ⟨rfl, b5⟩
    replace R := Lib.hid (R.out.below b5)
    have B5 := Lib.hid (below_then B4.out b5)
    clear b5
    go_wp2
    go_ret
    exact ⟨rfl, B5.out⟩

theorem contract (H : Type) (enc : TypeId × Value → H) (W : World) (base : Nat) (args : Array Value) (ds gs : List (DataW H)) (before : List MemPlace)
    (hval : ∀ (j : Nat) t v, Try.f4.params[j]? = some t → args[j]? = some v → Value.okWide Try.prog W .any base t v)
    (hW : DataW.Whole enc Try.prog Try.f4.params.toList Rows.mixBytesSpec.vars false W args.toList ds gs before) :
    Calls Try.prog 4 args W fun e W' => ∃ v, e = .returned v ∧ Rows.mixBytesSpec.post enc Try.prog Try.f4 false true false false W args v W' := by
  have hlt : ∀ x ∈ before, x.block < W.heap.size := fun x hx => by simpa using hW.lt x hx
  refine law_step 4 Try.laid_ (by kernel_rfl) rfl Try.underlying4 rfl hW (fun xs hx => ?_) ?_
  · match xs, hx with
    | [d0, d1], _ => rfl
  · obtain ⟨p, q, hA0, hV, rfl, _, _⟩ := hW
    have hA : DataW.TrodAll enc Try.prog W 0 (fun _ => true) true Try.f4.params.toList args.toList ds p := hA0
    rw [Try.params4] at hA hval
    obtain ⟨v0, vs0, d0, ds0, p0, q0, e0, rfl, rfl, h0, r0⟩ := trodAll_cons hA
    obtain ⟨v1, vs1, d1, ds1, p1, q1, e1, rfl, rfl, h1, r1⟩ := trodAll_cons r0
    obtain ⟨rfl, rfl, rfl⟩ := trodAll_nil r1
    subst e1
    obtain rfl : args = #[v0, v1] := by cases args; simp_all
    clear e0 hA0
    obtain ⟨c, rfl, rfl, rfl, w0⟩ := open_int Try.underlying22 (hval 0 22 v0 rfl rfl) h0
    obtain ⟨lo0, hi0⟩ := wf_u64r w0
    obtain ⟨A1, n1, c1, l, rfl, rd1, wf1⟩ := open_sl (k := .u8) Try.underlying26 Try.underlying5 (by kernel_rfl) (hval 1 26 v1 rfl rfl) h1 (fun x hx => hlt x (by simp [hx]))
    exact walk c lo0 hi0 A1 n1 c1 l W rd1 (bytes_of wf1)

set_option maxRecDepth 100000 in
theorem lifted (os : Os) (started : os.Started) (H : Type) (enc : TypeId × Value → H) :
    ReturnsInHanded {} Try.checked os 4 .any (Rows.mixBytesSpec.pre6 enc Try.prog Try.f4 Rows.mixBytesRow.domain false) (Rows.mixBytesSpec.post enc Try.prog Try.f4 false true false false) := by
  refine returnsInHanded_of_change (C := Try.checked) Try.own_ started (by kernel_rfl) Try.func4
    (ChangeSpec.witness6 (enc := enc) (C := Try.checked) false ⟨#[], #[.int .u64 0, .slice none 0 0], []⟩ 8 (by kernel_rfl) (by kernel_rfl) (by kernel_rfl) (by kernel_rfl)) ?_
  intro W base args ds gs before hval hW _ _
  exact contract H enc W base args ds gs before hval hW

theorem holds : Rows.MixBytesSaid :=
  OpenClaim.holds_of_wide 4 Try.f4 rfl rfl rfl rfl rfl rfl rfl ⟨rfl, rfl, rfl, rfl, rfl⟩ rfl rfl rfl rfl rfl (by kernel_rfl) Try.func4 (by kernel_rfl)
    (of_decide_eq_true (by kernel_rfl)) (by unfold Func.isWrapper; first | (rw [if_pos (by decide +kernel)]; kernel_rfl) | (rw [if_neg (by decide +kernel)]; exact ⟨rfl, rfl⟩))
    (fun os started H enc _ => lifted os started H enc)
end Go.Proofs.Ytkmedgfoolbdaaa.mixBytes
