/- Of any two numbers, package code lays the same bytes just if they are the same, and no fewer for the one that is farther from 0 on its side: CodeApart answers true. No condition. -/
import Derived.Test.YtbajdehcomheaaaRows
import Derived.Test.YtbajdehcomheaaaLaw
import Derived.Test.YtbajdehcomheaaaCodeMath2
namespace Go.Proofs.Ytbajdehcomheaaa.codeApart
open Go.ChangeShapes Go.WideShapes Go.ChangeAt Go.RowKit Go.ChangeMaps

set_option maxHeartbeats 3200000 in
theorem walk (m n : Int) (h1 : -9223372036854775808 ≤ m) (h2 : m ≤ 9223372036854775807) (h3 : -9223372036854775808 ≤ n) (h4 : n ≤ 9223372036854775807) (w : World) :
    Calls Try.prog 9 #[.int .i64 m, .int .i64 n] w fun e w' => e = .returned (.bool true) ∧ Below w.heap.size w w' := by
  obtain ⟨r, hr, hrr⟩ : ∃ r : Bool, Hid (decide (putZ m = putZ n) = r) ∧ (m == n) = r := by
    refine ⟨m == n, ?_, rfl⟩
    show _ = _
    by_cases h : m = n
    · subst h; simp
    · have h5 : ¬ putZ m = putZ n := fun e => h (putZ_inj ⟨h1, h2⟩ ⟨h3, h4⟩ e)
      simp [h, h5]
  have hlen : (0 ≤ m ∧ m ≤ n) ∨ (m < 0 ∧ n ≤ m) → ((putZ m).length : Int) ≤ ((putZ n).length : Int) := fun h => by have := putZ_mono h; omega
  have put : ∀ (z : Int) (W : World), -9223372036854775808 ≤ z → z ≤ 9223372036854775807 → Calls Try.prog 13 #[.int .i64 z] W (Fresh 5 .u8 (putZ z) W) := fun z W a b => fresh (put_any z W a b)
  have PUT := Lib.hid put; clear put
  have fin : ∀ (a b c d : Bool), True := fun _ _ _ _ => trivial
  clear fin
  by_cases hm : 0 ≤ m <;> by_cases hn : 0 ≤ n <;> by_cases hle : m ≤ n <;> by_cases hge : n ≤ m <;> first | (exfalso; omega) | skip
  all_goals
    first
      | (have hlen := hlen (.inl ⟨hm, hle⟩))
      | (have hlen := hlen (.inr ⟨by omega, hge⟩))
      | (clear hlen)
    go_enter Try.func9, Try.ntmps9
    go_wp2_with fail
    refine (PUT.out _ _ h1 h2).mono ?_
    rintro e w1 ⟨A1, c1, rfl, _, rd1, b1⟩
    go_wp2_with fail
    refine (PUT.out _ _ h3 h4).mono ?_
    rintro e w2 ⟨A2, c2, rfl, _, rd2, b2⟩
    have rd1 := rd1.below b2
    have b2 := below_then b1 b2
    go_wp2_with fail
    refine (alive_any _).mono ?_
    rintro e w3 ⟨rfl, b3⟩
    have rd1 := rd1.below b3
    have rd2 := rd2.below b3
    have b3 := below_then b2 b3
    go_wp2_with fail
    refine (same_is _ _ rd1 rd2 hr.out).mono ?_
    rintro e w4 ⟨rfl, q4⟩
    have b4 := below_quiet b3 q4
    go_wp2
    go_ret
    exact ⟨rfl, b4⟩

theorem contract (H : Type) (enc : TypeId × Value → H) (W : World) (base : Nat) (args : Array Value) (ds gs : List (DataW H)) (before : List MemPlace)
    (hval : ∀ (j : Nat) t v, Try.f9.params[j]? = some t → args[j]? = some v → Value.okWide Try.prog W .any base t v)
    (hW : DataW.Whole enc Try.prog Try.f9.params.toList Rows.codeApartSpec.vars false W args.toList ds gs before) :
    Calls Try.prog 9 args W fun e W' => ∃ v, e = .returned v ∧ Rows.codeApartSpec.post enc Try.prog Try.f9 false true false false W args v W' := by
  have hlt : ∀ x ∈ before, x.block < W.heap.size := fun x hx => by simpa using hW.lt x hx
  refine law_step 4 Try.laid_ (by kernel_rfl) rfl Try.underlying4 rfl hW (fun xs hx => ?_) ?_
  · match xs, hx with
    | [d0, d1], _ => rfl
  · obtain ⟨p, q, hA0, hV, rfl, _, _⟩ := hW
    have hA : DataW.TrodAll enc Try.prog W 0 (fun _ => true) true Try.f9.params.toList args.toList ds p := hA0
    rw [Try.params9] at hA hval
    obtain ⟨v0, vs0, d0, ds0, p0, q0, e0, rfl, rfl, h0, r0⟩ := trodAll_cons hA
    obtain ⟨v1, vs1, d1, ds1, p1, q1, e1, rfl, rfl, h1, r1⟩ := trodAll_cons r0
    obtain ⟨rfl, rfl, rfl⟩ := trodAll_nil r1
    subst e1
    obtain rfl : args = #[v0, v1] := by cases args; simp_all
    clear e0 hA0
    obtain ⟨m, rfl, rfl, rfl, w0⟩ := open_int Try.underlying3 (hval 0 3 v0 rfl rfl) h0
    obtain ⟨lo0, hi0⟩ := wf_i64 w0
    obtain ⟨n, rfl, rfl, rfl, w1⟩ := open_int Try.underlying3 (hval 1 3 v1 rfl rfl) h1
    obtain ⟨lo1, hi1⟩ := wf_i64 w1
    exact walk m n lo0 hi0 lo1 hi1 W

set_option maxRecDepth 100000 in
theorem lifted (os : Os) (started : os.Started) (H : Type) (enc : TypeId × Value → H) :
    ReturnsInHanded {} Try.checked os 9 .any (Rows.codeApartSpec.pre6 enc Try.prog Try.f9 Rows.codeApartRow.domain false) (Rows.codeApartSpec.post enc Try.prog Try.f9 false true false false) := by
  refine returnsInHanded_of_change (C := Try.checked) Try.own_ started (by kernel_rfl) Try.func9
    (ChangeSpec.witness6 (enc := enc) (C := Try.checked) false ⟨#[], #[.int .i64 0, .int .i64 0], []⟩ 8 (by kernel_rfl) (by kernel_rfl) (by kernel_rfl) (by kernel_rfl)) ?_
  intro W base args ds gs before hval hW _ _
  exact contract H enc W base args ds gs before hval hW

theorem holds : Rows.CodeApartSaid :=
  OpenClaim.holds_of_wide 9 Try.f9 rfl rfl rfl rfl rfl rfl rfl ⟨rfl, rfl, rfl, rfl, rfl⟩ rfl rfl rfl rfl rfl (by kernel_rfl) Try.func9 (by kernel_rfl)
    (of_decide_eq_true (by kernel_rfl)) (by unfold Func.isWrapper; first | (rw [if_pos (by decide +kernel)]; kernel_rfl) | (rw [if_neg (by decide +kernel)]; exact ⟨rfl, rfl⟩))
    (fun os started H enc _ => lifted os started H enc)
end Go.Proofs.Ytbajdehcomheaaa.codeApart
