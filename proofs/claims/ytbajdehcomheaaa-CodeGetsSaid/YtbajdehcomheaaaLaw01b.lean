/- For all bytes, what package code gets of them as a number, as a text and as a row of numbers is what the document says: CodeGets answers true. No condition. -/
import Derived.Test.YtbajdehcomheaaaRows
import Derived.Test.YtbajdehcomheaaaLaw
import Derived.Test.YtbajdehcomheaaaCodeFlat
namespace Go.Proofs.Ytbajdehcomheaaa.codeGets
open Go.ChangeShapes Go.WideShapes Go.ChangeAt Go.RowKit Go.ChangeMaps

set_option maxHeartbeats 1600000 in
theorem walk (A : Option Addr) (n c : Nat) (l : List Int) (w : World) (hrd : Rd w A n c (vals .u8 l)) (hb : ∀ x ∈ l, 0 ≤ x ∧ x ≤ 255) :
    Calls Try.prog 4 #[.slice A n c] w fun e w' => e = .returned (.bool true) ∧ Below w.heap.size w w' := by
  by_cases hn : (1000 : Int) < (n : Int)
  · have hle := hrd.le
    clear hrd
    go_enter Try.func4, Try.ntmps4
    go_wp2_with fail
    refine (alive_any _).mono ?_
    rintro e wz ⟨rfl, bz⟩
    go_wp2
    go_ret
    exact ⟨rfl, bz⟩
  · have hle := hrd.le
    have HRD := Lib.hid hrd; have HB := Lib.hid hb; clear hrd hb
    go_enter Try.func4, Try.ntmps4
    go_wp2_with fail
    refine (fGet HRD.out HB.out).mono ?_
    rintro e w1 ⟨rfl, b1⟩
    go_wp2_with fail
    refine (fRefGet (HRD.out.below b1) HB.out).mono ?_
    rintro e w2 ⟨rfl, b2⟩
    have b2 := below_then b1 b2
    go_wp2_with fail
    refine (fText (HRD.out.below b2) HB.out).mono ?_
    rintro e w3 ⟨rfl, b3⟩
    have b3 := below_then b2 b3
    go_wp2_with fail
    refine (fRefText (HRD.out.below b3) HB.out).mono ?_
    rintro e w4 ⟨rfl, b4⟩
    have b4 := below_then b3 b4
    go_wp2_with fail
    refine (fNums (HRD.out.below b4) HB.out (by omega)).mono ?_
    rintro e w5 ⟨A5, c5, rfl, rd5, b5⟩
    have b5 := below_then b4 b5
    go_wp2_with fail
    refine (fRefNums (HRD.out.below b5) HB.out (by omega)).mono ?_
    rintro e w6 ⟨A6, c6, rfl, rd6, b6⟩
    have rd5 := rd5.below b6
    have b6 := below_then b5 b6
    go_wp2_with fail
    refine (alive_any _).mono ?_
    rintro e w7 ⟨rfl, b7⟩
    have rd5 := rd5.below b7
    have rd6 := rd6.below b7
    have b7 := below_then b6 b7
    go_wp2_with fail
    refine (ints_is _ _ rd5 rd6 (r := true) (by simp)).mono ?_
    rintro e w8 ⟨rfl, q8⟩
    have b8 := below_quiet b7 q8
    go_wp2
    go_ret
    exact ⟨rfl, b8⟩

theorem contract (H : Type) (enc : TypeId × Value → H) (W : World) (base : Nat) (args : Array Value) (ds gs : List (DataW H)) (before : List MemPlace)
    (hval : ∀ (j : Nat) t v, Try.f4.params[j]? = some t → args[j]? = some v → Value.okWide Try.prog W .any base t v)
    (hW : DataW.Whole enc Try.prog Try.f4.params.toList Rows.codeGetsSpec.vars false W args.toList ds gs before) :
    Calls Try.prog 4 args W fun e W' => ∃ v, e = .returned v ∧ Rows.codeGetsSpec.post enc Try.prog Try.f4 false true false false W args v W' := by
  have hlt : ∀ x ∈ before, x.block < W.heap.size := fun x hx => by simpa using hW.lt x hx
  refine law_step 4 Try.laid_ (by kernel_rfl) rfl Try.underlying4 rfl hW (fun xs hx => ?_) ?_
  · match xs, hx with
    | [d0], _ => rfl
  · obtain ⟨p, q, hA0, hV, rfl, _, _⟩ := hW
    have hA : DataW.TrodAll enc Try.prog W 0 (fun _ => true) true Try.f4.params.toList args.toList ds p := hA0
    rw [Try.params4] at hA hval
    obtain ⟨v0, vs0, d0, ds0, p0, q0, e0, rfl, rfl, h0, r0⟩ := trodAll_cons hA
    obtain ⟨rfl, rfl, rfl⟩ := trodAll_nil r0
    obtain rfl : args = #[v0] := by cases args; simp_all
    clear e0 hA0
    obtain ⟨A0, n0, c0, l, rfl, rd0, wf0⟩ := open_sl (k := .u8) Try.underlying24 Try.underlying5 (by kernel_rfl) (hval 0 24 v0 rfl rfl) h0 (fun x hx => hlt x (by simp [hx]))
    exact walk A0 n0 c0 l W rd0 (fun x hx => wf_u8 (wf0 x hx))

set_option maxRecDepth 100000 in
theorem lifted (os : Os) (started : os.Started) (H : Type) (enc : TypeId × Value → H) :
    ReturnsInHanded {} Try.checked os 4 .any (Rows.codeGetsSpec.pre6 enc Try.prog Try.f4 Rows.codeGetsRow.domain false) (Rows.codeGetsSpec.post enc Try.prog Try.f4 false true false false) := by
  refine returnsInHanded_of_change (C := Try.checked) Try.own_ started (by kernel_rfl) Try.func4
    (ChangeSpec.witness6 (enc := enc) (C := Try.checked) false ⟨#[], #[.slice none 0 0], []⟩ 8 (by kernel_rfl) (by kernel_rfl) (by kernel_rfl) (by kernel_rfl)) ?_
  intro W base args ds gs before hval hW _ _
  exact contract H enc W base args ds gs before hval hW

theorem holds : Rows.CodeGetsSaid :=
  OpenClaim.holds_of_wide 4 Try.f4 rfl rfl rfl rfl rfl rfl rfl ⟨rfl, rfl, rfl, rfl, rfl⟩ rfl rfl rfl rfl rfl (by kernel_rfl) Try.func4 (by kernel_rfl)
    (of_decide_eq_true (by kernel_rfl)) (by unfold Func.isWrapper; first | (rw [if_pos (by decide +kernel)]; kernel_rfl) | (rw [if_neg (by decide +kernel)]; exact ⟨rfl, rfl⟩))
    (fun os started H enc _ => lifted os started H enc)
end Go.Proofs.Ytbajdehcomheaaa.codeGets
