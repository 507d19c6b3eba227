/- Whatever rows come in: RowOrder answers true: how two rows of right values stand to one another is what the document says. No condition. -/
import Derived.Test.YtijhcoidhlmecaaRows
import Derived.Test.YtijhcoidhlmecaaLaw
import Derived.Test.YtijhcoidhlmecaaLaw
import Derived.Test.YtijhcoidhlmecaaRowLaw
namespace Go.Proofs.Ytijhcoidhlmecaa.rowOrder
open Go.ChangeShapes Go.WideShapes Go.ChangeAt Go.RowKit Go.ChangeMaps

set_option maxHeartbeats 6400000 in
theorem walk (A B : Option Addr) (n c m d : Nat) (a b : List V3) (w : World) (ha : RdV w A n c a) (hb : RdV w B m d b) :
    Calls Try.prog 4 #[.slice A n c, .slice B m d] w fun e w' => e = .returned (.bool true) ∧ Below w.heap.size w w' := by
  have FE := Lib.hid (few2 w.heap.size rfl ha hb)
  have HA := Lib.hid ha; have HB := Lib.hid hb
  clear ha hb
  have SZ := @few_sizes [⟨A, n, c, a⟩, ⟨B, m, d, b⟩]
  generalize fewZ [⟨A, n, c, a⟩, ⟨B, m, d, b⟩] = f at FE SZ
  cases f with
  | false =>
    clear SZ
    go_enter Try.func4, Try.ntmps4
    have BA0 := below_new (Below.refl w.heap.size w) (.cells #[.slice A n c, .slice B m d] 24)
    go_wp2_with fail
    refine (FE.out).mono ?_
    rintro e w1 ⟨rfl, b1⟩
    have B1 := below_then (BA0) b1
    go_wp2_with fail
    refine (alive_any _).mono ?_
    rintro e w2 ⟨rfl, b2⟩
    have B2 := below_then (B1) b2
    go_wp2
    go_ret
    exact ⟨rfl, B2⟩
  | true =>
    have SZ := SZ rfl
    have hsa : ∀ v ∈ a, v.s.size ≤ 4294967296 := fun v hv => Nat.le_trans ((SZ ⟨A, n, c, a⟩ (by simp)).2 v hv) (by decide)
    have hsb : ∀ v ∈ b, v.s.size ≤ 4294967296 := fun v hv => Nat.le_trans ((SZ ⟨B, m, d, b⟩ (by simp)).2 v hv) (by decide)
    obtain ⟨p, PA⟩ : ∃ p, Hid (∀ W, Below w.heap.size w W → Calls Try.prog 16 #[.slice A n c] W fun e W' => e = .returned (.bool p) ∧ Below W.heap.size W W') :=
      ⟨_, Lib.hid fun W hW => refAll_any _ _ _ _ W (HA.out.below hW) hsa⟩
    obtain ⟨q, PB⟩ : ∃ q, Hid (∀ W, Below w.heap.size w W → Calls Try.prog 16 #[.slice B m d] W fun e W' => e = .returned (.bool q) ∧ Below W.heap.size W W') :=
      ⟨_, Lib.hid fun W hW => refAll_any _ _ _ _ W (HB.out.below hW) hsb⟩
    obtain ⟨r, L1, L2⟩ : ∃ r, Hid (∀ W, Below w.heap.size w W → Calls Try.prog 17 #[.slice A n c, .slice B m d] W fun e W' => e = .returned (.bool r) ∧ Below W.heap.size W W') ∧
        Hid (∀ W, Below w.heap.size w W → Calls Try.prog 18 #[.slice A n c, .slice B m d] W fun e W' => e = .returned (.bool r) ∧ Below W.heap.size W W') :=
      ⟨_, Lib.hid fun W hW => rowLess_any _ _ _ _ _ _ _ _ W (HA.out.below hW) (HB.out.below hW), Lib.hid fun W hW => refRowLess_any _ _ _ _ _ _ _ _ W (HA.out.below hW) (HB.out.below hW)⟩
    obtain ⟨u, S1, S2⟩ : ∃ u, Hid (∀ W, Below w.heap.size w W → Calls Try.prog 19 #[.slice A n c, .slice B m d] W fun e W' => e = .returned (.bool u) ∧ Below W.heap.size W W') ∧
        Hid (∀ W, Below w.heap.size w W → Calls Try.prog 20 #[.slice A n c, .slice B m d] W fun e W' => e = .returned (.bool u) ∧ Below W.heap.size W W') :=
      ⟨_, Lib.hid fun W hW => rowSame_any _ _ _ _ _ _ _ _ W (HA.out.below hW) (HB.out.below hW), Lib.hid fun W hW => refRowSame_any _ _ _ _ _ _ _ _ W (HA.out.below hW) (HB.out.below hW)⟩
    clear SZ hsa hsb
    go_enter Try.func4, Try.ntmps4
    have BA0 := below_new (Below.refl w.heap.size w) (.cells #[.slice A n c, .slice B m d] 24)
    go_wp2_with fail
    refine (FE.out).mono ?_
    rintro e w1 ⟨rfl, b1⟩
    have B1 := below_then (BA0) b1
    go_wp2_with fail
    refine (PA.out _ (B1)).mono ?_
    rintro e w2 ⟨rfl, b2⟩
    have B2 := below_then (B1) b2
    cases p with
    | false =>
      go_wp2_with fail
      refine (alive_any _).mono ?_
      rintro e w3 ⟨rfl, b3⟩
      have B3 := below_then (B2) b3
      go_wp2
      go_ret
      exact ⟨rfl, B3⟩
    | true =>
      go_wp2_with fail
      refine (PB.out _ (B2)).mono ?_
      rintro e w3 ⟨rfl, b3⟩
      have B3 := below_then (B2) b3
      cases q with
      | false =>
        go_wp2_with fail
        refine (alive_any _).mono ?_
        rintro e w4 ⟨rfl, b4⟩
        have B4 := below_then (B3) b4
        go_wp2
        go_ret
        exact ⟨rfl, B4⟩
      | true =>
        go_wp2_with fail
        refine (alive_any _).mono ?_
        rintro e w4 ⟨rfl, b4⟩
        have B4 := below_then (B3) b4
        go_wp2_with fail
        refine (L1.out _ (B4)).mono ?_
        rintro e w5 ⟨rfl, b5⟩
        have B5 := below_then (B4) b5
        go_wp2_with fail
        refine (L2.out _ (B5)).mono ?_
        rintro e w6 ⟨rfl, b6⟩
        have B6 := below_then (B5) b6
        cases r
        all_goals
          go_wp2_with fail
          refine (S1.out _ (B6)).mono ?_
          rintro e w7 ⟨rfl, b7⟩
          have B7 := below_then (B6) b7
          go_wp2_with fail
          refine (S2.out _ (B7)).mono ?_
          rintro e w8 ⟨rfl, b8⟩
          have B8 := below_then (B7) b8
          cases u
          all_goals go_wp2
          all_goals go_ret
          all_goals exact ⟨rfl, B8⟩

theorem contract (H : Type) (enc : TypeId × Value → H) (W : World) (base : Nat) (args : Array Value) (ds gs : List (DataW H)) (before : List MemPlace)
    (hval : ∀ (j : Nat) t v, Try.f4.params[j]? = some t → args[j]? = some v → Value.okWide Try.prog W .any base t v)
    (hW : DataW.Whole enc Try.prog Try.f4.params.toList Rows.rowOrderSpec.vars false W args.toList ds gs before) :
    Calls Try.prog 4 args W fun e W' => ∃ v, e = .returned v ∧ Rows.rowOrderSpec.post enc Try.prog Try.f4 false true false false W args v W' := by
  have hlt : ∀ x ∈ before, x.block < W.heap.size := fun x hx => by simpa using hW.lt x hx
  refine law_step 4 Try.laid_ (by kernel_rfl) rfl Try.underlying4 rfl hW (fun xs hx => ?_) ?_
  · match xs, hx with
    | [d0, d1], _ => rfl
  · obtain ⟨p, q, hA0, hV, rfl, _, _⟩ := hW
    have hA : DataW.TrodAll enc Try.prog W 0 (fun _ => true) true Try.f4.params.toList args.toList ds p := hA0
    rw [Try.params4] at hA hval
    obtain ⟨v0, vs0, d0, ds0, p0, q0, e0, rfl, rfl, h0, r0⟩ := trodAll_cons hA
    obtain ⟨v1, vs1, d1, ds1, p1, q1, e1, rfl, rfl, h1, r1⟩ := trodAll_cons r0
    obtain ⟨rfl, rfl, rfl⟩ := trodAll_nil r1
    subst e1
    obtain rfl : args = #[v0, v1] := by cases args; simp_all
    clear e0 hA0
    obtain ⟨A0, n0, c0, a, rfl, rd0, wf0⟩ := open_row (hval 0 24 v0 rfl rfl) h0
    obtain ⟨A1, n1, c1, b, rfl, rd1, wf1⟩ := open_row (hval 1 24 v1 rfl rfl) h1
    exact walk A0 A1 n0 c0 n1 c1 a b W rd0 rd1

set_option maxRecDepth 100000 in
theorem lifted (os : Os) (started : os.Started) (H : Type) (enc : TypeId × Value → H) :
    ReturnsInHanded {} Try.checked os 4 .any (Rows.rowOrderSpec.pre6 enc Try.prog Try.f4 Rows.rowOrderRow.domain false) (Rows.rowOrderSpec.post enc Try.prog Try.f4 false true false false) := by
  refine returnsInHanded_of_change (C := Try.checked) Try.own_ started (by kernel_rfl) Try.func4
    (ChangeSpec.witness6 (enc := enc) (C := Try.checked) false ⟨#[], #[.slice none 0 0, .slice none 0 0], []⟩ 8 (by kernel_rfl) (by kernel_rfl) (by kernel_rfl) (by kernel_rfl)) ?_
  intro W base args ds gs before hval hW _ _
  exact contract H enc W base args ds gs before hval hW

theorem holds : Rows.RowOrderSaid :=
  OpenClaim.holds_of_wide 4 Try.f4 rfl rfl rfl rfl rfl rfl rfl ⟨rfl, rfl, rfl, rfl, rfl⟩ rfl rfl rfl rfl rfl (by kernel_rfl) Try.func4 (by kernel_rfl)
    (of_decide_eq_true (by kernel_rfl)) (by unfold Func.isWrapper; first | (rw [if_pos (by decide +kernel)]; kernel_rfl) | (rw [if_neg (by decide +kernel)]; exact ⟨rfl, rfl⟩))
    (fun os started H enc _ => lifted os started H enc)
end Go.Proofs.Ytijhcoidhlmecaa.rowOrder
