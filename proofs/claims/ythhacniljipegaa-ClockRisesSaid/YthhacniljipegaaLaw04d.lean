/- Whatever time and whatever clock come in: ClockRises answers true: a device's times rise, whatever its clock does. No condition. -/
import Derived.Test.YthhacniljipegaaRows
import Derived.Test.YthhacniljipegaaLaw
import Derived.Test.YthhacniljipegaaClkAwake
import Derived.Test.YthhacniljipegaaClkTells
namespace Go.Proofs.Ythhacniljipegaa.clockRises
open Go.ChangeShapes Go.WideShapes Go.ChangeAt Go.RowKit Go.ChangeMaps

set_option maxRecDepth 100000
theorem wf_u32 {x : Int} (h : (Lit.int .u32 x).wf = true) : 0 ≤ x ∧ x ≤ 4294967295 := by
  simpa [Lit.wf, IntKind.min, IntKind.max, IntKind.signed, IntKind.bits] using h
theorem next_no {a v : Int} (ha : 0 ≤ a) (ha2 : a ≤ 8589934592) (h : nextE a v ≠ 0) : nextE a v = 14 ∧ nextN a v = 0 ∧ ¬ v - 1048576 ≤ a ∧ a < v := by
  unfold nextE at h ⊢
  unfold nextN
  rcases right_cases (max v (a + 1)) a with g | g | g | g | g
  all_goals first | (exfalso; omega) | skip
  all_goals rw [if_neg h]; refine ⟨by omega, rfl, by omega, by omega⟩
theorem next_yes {a v : Int} (h : nextE a v = 0) : nextN a v = max v (a + 1) ∧ rightT (max v (a + 1)) a = 0 ∧ max v (a + 1) - a ≤ 1048576 ∧ a < max v (a + 1) := by
  unfold nextE at h
  unfold nextN
  rw [if_pos h]
  refine ⟨rfl, h, ?_⟩
  rcases right_cases (max v (a + 1)) a with g | g | g | g | g <;> omega

set_option maxHeartbeats 6400000 in
theorem walk (k : Int) (A : Option Addr) (n c : Nat) (l : List Int) (hk : 0 ≤ k ∧ k ≤ 4294967295) (w : World) (h : Rd w A n c (vals .i64 l)) (hl : ∀ x ∈ l, -9223372036854775808 ≤ x ∧ x ≤ 9223372036854775807) :
    Calls Try.prog 6 #[.int .u32 k, .slice A n c] w fun e w' => e = .returned (.bool true) ∧ Below w.heap.size w w' := by
  have hle := h.le
  have HH := Lib.hid h; have HL := Lib.hid hl
  clear h hl
  by_cases hn : n ≤ 60
  · have hnz : ¬ (60 : Int) < (n : Int) := by omega
    have hwk : IntKind.i64.wrap k = k := by simp [IntKind.wrap, IntKind.bits, IntKind.signed]; omega
    go_enter Try.func6, Try.ntmps6
    go_wp2_with fail
    refine (clkAwake_any _).mono ?_
    rintro e w1 ⟨rfl, b1⟩
    go_wp2_with fail
    go_loopw [6, 7] (fun v u wr => ∃ (a : Int) (i : Nat), v = .int .i64 a ∧ u = .int .i64 i ∧ i ≤ n ∧ 0 ≤ a ∧ a ≤ 4294967295 + 1048576 * (i : Int) ∧ wr = w1) (fun _ u _ => n - (intOf u).toNat)
    case atStart => exact ⟨k, 0, rfl, rfl, Nat.zero_le _, hk.1, by omega, rfl⟩
    case round =>
      clear hwk hk
      obtain ⟨a, i, rfl, rfl, hi, ha0, ha1, rfl⟩ := hrel
      by_cases hlt : i < n
      · have hlz : (i : Int) < (n : Int) := by omega
        obtain ⟨b, o, u, rfl, hb, hu, hcu⟩ := (HH.out.below b1).at_ hlt
        obtain ⟨v, hv, rfl⟩ := vals_at hu
        obtain ⟨hv1, hv2⟩ := HL.out v (List.mem_of_getElem? hv)
        have N := Lib.hid (fun W => clkNext_any a v W (by omega) ⟨hv1, hv2⟩)
        clear hu hv
        by_cases hE : nextE a v = 0
        · obtain ⟨e1, e2, e3, e4⟩ := next_yes hE
          rw [e1, hE] at N
          by_cases hva : v ≤ a + 1
          · have em : max v (a + 1) = a + 1 := by omega
            rw [em] at N e2
            have R := Lib.hid (fun W => clkRight_any (a + 1) a W)
            rw [e2] at R
            have w1 : IntKind.i64.wrap (a + 1) = a + 1 := by simp [IntKind.wrap, IntKind.bits, IntKind.signed]; omega
            have g1 : ¬ a + 1 ≤ a := by omega
            have g2 : ¬ a + 1 < v := by omega
            have g3 : ¬ a + 1 < a + 1 := by omega
            clear e1 e2 em hE
            go_wp2_with (first
              | (go_at_call 10; refine (N.out _).mono ?_; rintro e w' ⟨rfl, rfl⟩)
              | (go_at_call 14; refine (R.out _).mono ?_; rintro e w' ⟨rfl, rfl⟩))
            exact ⟨⟨a + 1, i + 1, rfl, by go_num, by omega, by omega, by omega, by trivial⟩, by simp [intOf]; omega⟩
          · have em : max v (a + 1) = v := by omega
            rw [em] at N e2 e3
            have R := Lib.hid (fun W => clkRight_any v a W)
            rw [e2] at R
            have w1 : IntKind.i64.wrap (a + 1) = a + 1 := by simp [IntKind.wrap, IntKind.bits, IntKind.signed]; omega
            have g1 : ¬ v ≤ a := by omega
            have g3 : a + 1 < v := by omega
            clear e1 e2 em hE
            go_wp2_with (first
              | (go_at_call 10; refine (N.out _).mono ?_; rintro e w' ⟨rfl, rfl⟩)
              | (go_at_call 14; refine (R.out _).mono ?_; rintro e w' ⟨rfl, rfl⟩))
            exact ⟨⟨v, i + 1, rfl, by go_num, by omega, by omega, by omega, by trivial⟩, by simp [intOf]; omega⟩
        · obtain ⟨e1, e2, e3, e4⟩ := next_no ha0 (by omega) hE
          rw [e1, e2] at N
          have w1 : IntKind.i64.wrap (v - 1048576) = v - 1048576 := by simp [IntKind.wrap, IntKind.bits, IntKind.signed]; omega
          clear e1 e2 hE
          go_wp2_with (first
            | (go_at_call 10; refine (N.out _).mono ?_; rintro e w' ⟨rfl, rfl⟩))
          exact ⟨⟨a, i + 1, rfl, by go_num, by omega, by omega, by omega, by trivial⟩, by simp [intOf]; omega⟩
      · have hlz : ¬ (i : Int) < (n : Int) := by omega
        go_wp2
        go_ret
        exact ⟨rfl, b1⟩
  · have hnz : (60 : Int) < (n : Int) := by omega
    go_enter Try.func6, Try.ntmps6
    go_wp2_with fail
    refine (clkAwake_any _).mono ?_
    rintro e w1 ⟨rfl, b1⟩
    go_wp2
    go_ret
    exact ⟨rfl, b1⟩

theorem contract (H : Type) (enc : TypeId × Value → H) (W : World) (base : Nat) (args : Array Value) (ds gs : List (DataW H)) (before : List MemPlace)
    (hval : ∀ (j : Nat) t v, Try.f6.params[j]? = some t → args[j]? = some v → Value.okWide Try.prog W .any base t v)
    (hW : DataW.Whole enc Try.prog Try.f6.params.toList Rows.clockRisesSpec.vars false W args.toList ds gs before) :
    Calls Try.prog 6 args W fun e W' => ∃ v, e = .returned v ∧ Rows.clockRisesSpec.post enc Try.prog Try.f6 false true false false W args v W' := by
  have hlt : ∀ x ∈ before, x.block < W.heap.size := fun x hx => by simpa using hW.lt x hx
  refine law_step 4 Try.laid_ (by kernel_rfl) rfl Try.underlying4 rfl hW (fun xs hx => ?_) ?_
  · match xs, hx with
    | [d0, d1], _ => rfl
  · obtain ⟨p, q, hA0, hV, rfl, _, _⟩ := hW
    have hA : DataW.TrodAll enc Try.prog W 0 (fun _ => true) true Try.f6.params.toList args.toList ds p := hA0
    rw [Try.params6] at hA hval
    obtain ⟨v0, vs0, d0, ds0, p0, q0, e0, rfl, rfl, h0, r0⟩ := trodAll_cons hA
    obtain ⟨v1, vs1, d1, ds1, p1, q1, e1, rfl, rfl, h1, r1⟩ := trodAll_cons r0
    obtain ⟨rfl, rfl, rfl⟩ := trodAll_nil r1
    subst e1
    obtain rfl : args = #[v0, v1] := by cases args; simp_all
    clear e0 hA0
    obtain ⟨k, rfl, rfl, rfl, w0⟩ := open_int Try.underlying37 (hval 0 37 v0 rfl rfl) h0
    obtain ⟨lo0, hi0⟩ := wf_u32 w0
    obtain ⟨A1, n1, c1, l, rfl, rd1, wf1⟩ := open_sl (k := .i64) Try.underlying33 Try.underlying3 (by kernel_rfl) (hval 1 33 v1 rfl rfl) h1 (fun x hx => hlt x (by simp [hx]))
    exact walk k A1 n1 c1 l ⟨lo0, hi0⟩ W rd1 (fun x hx => wf_i64 (wf1 x hx))

set_option maxRecDepth 100000 in
theorem lifted (os : Os) (started : os.Started) (H : Type) (enc : TypeId × Value → H) :
    ReturnsInHanded {} Try.checked os 6 .any (Rows.clockRisesSpec.pre6 enc Try.prog Try.f6 Rows.clockRisesRow.domain false) (Rows.clockRisesSpec.post enc Try.prog Try.f6 false true false false) := by
  refine returnsInHanded_of_change (C := Try.checked) Try.own_ started (by kernel_rfl) Try.func6
    (ChangeSpec.witness6 (enc := enc) (C := Try.checked) false ⟨#[], #[.int .u32 0, .slice none 0 0], []⟩ 8 (by kernel_rfl) (by kernel_rfl) (by kernel_rfl) (by kernel_rfl)) ?_
  intro W base args ds gs before hval hW _ _
  exact contract H enc W base args ds gs before hval hW

theorem holds : Rows.ClockRisesSaid :=
  OpenClaim.holds_of_wide 6 Try.f6 rfl rfl rfl rfl rfl rfl rfl ⟨rfl, rfl, rfl, rfl, rfl⟩ rfl rfl rfl rfl rfl (by kernel_rfl) Try.func6 (by kernel_rfl)
    (of_decide_eq_true (by kernel_rfl)) (by unfold Func.isWrapper; first | (rw [if_pos (by decide +kernel)]; kernel_rfl) | (rw [if_neg (by decide +kernel)]; exact ⟨rfl, rfl⟩))
    (fun os started H enc _ => lifted os started H enc)
end Go.Proofs.Ythhacniljipegaa.clockRises
