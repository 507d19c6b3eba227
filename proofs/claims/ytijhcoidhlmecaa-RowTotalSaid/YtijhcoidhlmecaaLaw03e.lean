/- Whatever rows come in: RowTotal answers true: of two rows of right values that are not the same just one is ahead of the other one; what is ahead of what is ahead of a third one is ahead of that. No condition. -/
import Derived.Test.YtijhcoidhlmecaaRows
import Derived.Test.YtijhcoidhlmecaaLaw
import Derived.Test.YtijhcoidhlmecaaLaw
import Derived.Test.YtijhcoidhlmecaaRowLaw
import Derived.Test.YtijhcoidhlmecaaRowOrdMath
namespace Go.Proofs.Ytijhcoidhlmecaa.rowTotal
open Go.ChangeShapes Go.WideShapes Go.ChangeAt Go.RowKit Go.ChangeMaps

set_option maxHeartbeats 6400000 in
theorem walk (A B C : Option Addr) (n c m d p q : Nat) (a b k : List V3) (w : World) (ha : RdV w A n c a) (hb : RdV w B m d b) (hc : RdV w C p q k) :
    Calls Try.prog 7 #[.slice A n c, .slice B m d, .slice C p q] w fun e w' => e = .returned (.bool true) ∧ Below w.heap.size w w' := by
  have FE := Lib.hid (few3 w.heap.size rfl ha hb hc)
  have HA := Lib.hid ha; have HB := Lib.hid hb; have HC := Lib.hid hc
  clear ha hb hc
  have SZ := @few_sizes [⟨A, n, c, a⟩, ⟨B, m, d, b⟩, ⟨C, p, q, k⟩]
  generalize fewZ [⟨A, n, c, a⟩, ⟨B, m, d, b⟩, ⟨C, p, q, k⟩] = f at FE SZ
  cases f with
  | false =>
    clear SZ
    go_enter Try.func7, Try.ntmps7
    have BA0 := below_new (Below.refl w.heap.size w) (.cells #[.slice A n c, .slice B m d, .slice C p q] 24)
    go_wp2_with fail
    refine (FE.out).mono ?_
    rintro e w1 ⟨rfl, b1⟩
    have B1 := below_then (BA0) b1
    go_wp2_with fail
    refine (alive_any _).mono ?_
    rintro e w2 ⟨rfl, b2⟩
    have B2 := below_then (B1) b2
    go_wp2
    go_ret
    exact ⟨rfl, B2⟩
  | true =>
    have SZ := SZ rfl
    have hsa : ∀ v ∈ a, v.s.size ≤ 4294967296 := fun v hv => Nat.le_trans ((SZ ⟨A, n, c, a⟩ (by simp)).2 v hv) (by decide)
    have hsb : ∀ v ∈ b, v.s.size ≤ 4294967296 := fun v hv => Nat.le_trans ((SZ ⟨B, m, d, b⟩ (by simp)).2 v hv) (by decide)
    have hsc : ∀ v ∈ k, v.s.size ≤ 4294967296 := fun v hv => Nat.le_trans ((SZ ⟨C, p, q, k⟩ (by simp)).2 v hv) (by decide)
    obtain ⟨pa, PA⟩ : ∃ pa, Hid (∀ W, Below w.heap.size w W → Calls Try.prog 16 #[.slice A n c] W fun e W' => e = .returned (.bool pa) ∧ Below W.heap.size W W') :=
      ⟨_, Lib.hid fun W hW => refAll_any _ _ _ _ W (HA.out.below hW) hsa⟩
    obtain ⟨pb, PB⟩ : ∃ pb, Hid (∀ W, Below w.heap.size w W → Calls Try.prog 16 #[.slice B m d] W fun e W' => e = .returned (.bool pb) ∧ Below W.heap.size W W') :=
      ⟨_, Lib.hid fun W hW => refAll_any _ _ _ _ W (HB.out.below hW) hsb⟩
    obtain ⟨pc, PC⟩ : ∃ pc, Hid (∀ W, Below w.heap.size w W → Calls Try.prog 16 #[.slice C p q] W fun e W' => e = .returned (.bool pc) ∧ Below W.heap.size W W') :=
      ⟨_, Lib.hid fun W hW => refAll_any _ _ _ _ W (HC.out.below hW) hsc⟩
    have L1 : Hid (∀ W, Below w.heap.size w W → Calls Try.prog 17 #[.slice A n c, .slice B m d] W fun e W' => e = .returned (.bool (lessR a b)) ∧ Below W.heap.size W W') := Lib.hid fun W hW => rowLess_any _ _ _ _ _ _ _ _ W (HA.out.below hW) (HB.out.below hW)
    have L2 : Hid (∀ W, Below w.heap.size w W → Calls Try.prog 17 #[.slice B m d, .slice A n c] W fun e W' => e = .returned (.bool (lessR b a)) ∧ Below W.heap.size W W') := Lib.hid fun W hW => rowLess_any _ _ _ _ _ _ _ _ W (HB.out.below hW) (HA.out.below hW)
    have SS : Hid (∀ W, Below w.heap.size w W → Calls Try.prog 19 #[.slice A n c, .slice B m d] W fun e W' => e = .returned (.bool (sameR a b)) ∧ Below W.heap.size W W') := Lib.hid fun W hW => rowSame_any _ _ _ _ _ _ _ _ W (HA.out.below hW) (HB.out.below hW)
    have L3 : Hid (∀ W, Below w.heap.size w W → Calls Try.prog 17 #[.slice B m d, .slice C p q] W fun e W' => e = .returned (.bool (lessR b k)) ∧ Below W.heap.size W W') := Lib.hid fun W hW => rowLess_any _ _ _ _ _ _ _ _ W (HB.out.below hW) (HC.out.below hW)
    have L4 : Hid (∀ W, Below w.heap.size w W → Calls Try.prog 17 #[.slice A n c, .slice C p q] W fun e W' => e = .returned (.bool (lessR a k)) ∧ Below W.heap.size W W') := Lib.hid fun W hW => rowLess_any _ _ _ _ _ _ _ _ W (HA.out.below hW) (HC.out.below hW)
    have L5 : Hid (∀ W, Below w.heap.size w W → Calls Try.prog 17 #[.slice A n c, .slice A n c] W fun e W' => e = .returned (.bool (lessR a a)) ∧ Below W.heap.size W W') := Lib.hid fun W hW => rowLess_any _ _ _ _ _ _ _ _ W (HA.out.below hW) (HA.out.below hW)
    have hway := row_ways a b
    have htr := @lessR_trans a b k
    rw [lessR_irr] at L5
    generalize lessR a b = x at L1 hway htr
    generalize lessR b a = y at L2 hway
    generalize sameR a b = s at SS hway
    generalize lessR b k = z1 at L3 htr
    generalize lessR a k = z2 at L4 htr
    have HW := Lib.hid hway; have HT := Lib.hid htr
    clear SZ hsa hsb hsc hway htr
    go_enter Try.func7, Try.ntmps7
    have BA0 := below_new (Below.refl w.heap.size w) (.cells #[.slice A n c, .slice B m d, .slice C p q] 24)
    go_wp2_with fail
    refine (FE.out).mono ?_
    rintro e w1 ⟨rfl, b1⟩
    have B1 := below_then (BA0) b1
    go_wp2_with fail
    refine (PA.out _ (B1)).mono ?_
    rintro e w2 ⟨rfl, b2⟩
    have B2 := below_then (B1) b2
    cases pa with
    | false =>
      go_wp2_with fail
      refine (alive_any _).mono ?_
      rintro e w3 ⟨rfl, b3⟩
      have B3 := below_then (B2) b3
      go_wp2
      go_ret
      exact ⟨rfl, B3⟩
    | true =>
      go_wp2_with fail
      refine (PB.out _ (B2)).mono ?_
      rintro e w3 ⟨rfl, b3⟩
      have B3 := below_then (B2) b3
      cases pb with
      | false =>
        go_wp2_with fail
        refine (alive_any _).mono ?_
        rintro e w4 ⟨rfl, b4⟩
        have B4 := below_then (B3) b4
        go_wp2
        go_ret
        exact ⟨rfl, B4⟩
      | true =>
        go_wp2_with fail
        refine (PC.out _ (B3)).mono ?_
        rintro e w4 ⟨rfl, b4⟩
        have B4 := below_then (B3) b4
        cases pc with
        | false =>
          go_wp2_with fail
          refine (alive_any _).mono ?_
          rintro e w5 ⟨rfl, b5⟩
          have B5 := below_then (B4) b5
          go_wp2
          go_ret
          exact ⟨rfl, B5⟩
        | true =>
          go_wp2_with fail
          refine (L1.out _ (B4)).mono ?_
          rintro e w5 ⟨rfl, b5⟩
          have B5 := below_then (B4) b5
          go_wp2_with fail
          refine (L2.out _ (B5)).mono ?_
          rintro e w6 ⟨rfl, b6⟩
          have B6 := below_then (B5) b6
          go_wp2_with fail
          refine (SS.out _ (B6)).mono ?_
          rintro e w7 ⟨rfl, b7⟩
          have B7 := below_then (B6) b7
          rcases HW.out with ⟨rfl, rfl, rfl⟩ | ⟨rfl, rfl, rfl⟩ | ⟨rfl, rfl, rfl⟩
          · go_wp2_with fail
            refine (SS.out _ (B7)).mono ?_
            rintro e w8 ⟨rfl, b8⟩
            have B8 := below_then (B7) b8
            go_wp2_with fail
            refine (alive_any _).mono ?_
            rintro e w9 ⟨rfl, b9⟩
            have B9 := below_then (B8) b9
            go_wp2_with fail
            refine (L5.out _ (B9)).mono ?_
            rintro e w10 ⟨rfl, b10⟩
            have B10 := below_then (B9) b10
            go_wp2
            go_ret
            exact ⟨rfl, B10⟩
          · go_wp2_with fail
            refine (SS.out _ (B7)).mono ?_
            rintro e w8 ⟨rfl, b8⟩
            have B8 := below_then (B7) b8
            go_wp2_with fail
            refine (alive_any _).mono ?_
            rintro e w9 ⟨rfl, b9⟩
            have B9 := below_then (B8) b9
            go_wp2_with fail
            refine (L3.out _ (B9)).mono ?_
            rintro e w10 ⟨rfl, b10⟩
            have B10 := below_then (B9) b10
            cases z1 with
            | false =>
              go_wp2_with fail
              refine (L5.out _ (B10)).mono ?_
              rintro e w11 ⟨rfl, b11⟩
              have B11 := below_then (B10) b11
              go_wp2
              go_ret
              exact ⟨rfl, B11⟩
            | true =>
              obtain rfl : z2 = true := by simpa using HT.out
              go_wp2_with fail
              refine (L4.out _ (B10)).mono ?_
              rintro e w11 ⟨rfl, b11⟩
              have B11 := below_then (B10) b11
              go_wp2_with fail
              refine (L5.out _ (B11)).mono ?_
              rintro e w12 ⟨rfl, b12⟩
              have B12 := below_then (B11) b12
              go_wp2
              go_ret
              exact ⟨rfl, B12⟩
          · go_wp2_with fail
            refine (SS.out _ (B7)).mono ?_
            rintro e w8 ⟨rfl, b8⟩
            have B8 := below_then (B7) b8
            go_wp2_with fail
            refine (alive_any _).mono ?_
            rintro e w9 ⟨rfl, b9⟩
            have B9 := below_then (B8) b9
            go_wp2_with fail
            refine (L5.out _ (B9)).mono ?_
            rintro e w10 ⟨rfl, b10⟩
            have B10 := below_then (B9) b10
            go_wp2
            go_ret
            exact ⟨rfl, B10⟩

theorem contract (H : Type) (enc : TypeId × Value → H) (W : World) (base : Nat) (args : Array Value) (ds gs : List (DataW H)) (before : List MemPlace)
    (hval : ∀ (j : Nat) t v, Try.f7.params[j]? = some t → args[j]? = some v → Value.okWide Try.prog W .any base t v)
    (hW : DataW.Whole enc Try.prog Try.f7.params.toList Rows.rowTotalSpec.vars false W args.toList ds gs before) :
    Calls Try.prog 7 args W fun e W' => ∃ v, e = .returned v ∧ Rows.rowTotalSpec.post enc Try.prog Try.f7 false true false false W args v W' := by
  have hlt : ∀ x ∈ before, x.block < W.heap.size := fun x hx => by simpa using hW.lt x hx
  refine law_step 4 Try.laid_ (by kernel_rfl) rfl Try.underlying4 rfl hW (fun xs hx => ?_) ?_
  · match xs, hx with
    | [d0, d1, d2], _ => rfl
  · obtain ⟨p, q, hA0, hV, rfl, _, _⟩ := hW
    have hA : DataW.TrodAll enc Try.prog W 0 (fun _ => true) true Try.f7.params.toList args.toList ds p := hA0
    rw [Try.params7] at hA hval
    obtain ⟨v0, vs0, d0, ds0, p0, q0, e0, rfl, rfl, h0, r0⟩ := trodAll_cons hA
    obtain ⟨v1, vs1, d1, ds1, p1, q1, e1, rfl, rfl, h1, r1⟩ := trodAll_cons r0
    obtain ⟨v2, vs2, d2, ds2, p2, q2, e2, rfl, rfl, h2, r2⟩ := trodAll_cons r1
    obtain ⟨rfl, rfl, rfl⟩ := trodAll_nil r2
    subst e2
    subst e1
    obtain rfl : args = #[v0, v1, v2] := by cases args; simp_all
    clear e0 hA0
    obtain ⟨A0, n0, c0, a, rfl, rd0, wf0⟩ := open_row (hval 0 24 v0 rfl rfl) h0
    obtain ⟨A1, n1, c1, b, rfl, rd1, wf1⟩ := open_row (hval 1 24 v1 rfl rfl) h1
    obtain ⟨A2, n2, c2, k, rfl, rd2, wf2⟩ := open_row (hval 2 24 v2 rfl rfl) h2
    exact walk A0 A1 A2 n0 c0 n1 c1 n2 c2 a b k W rd0 rd1 rd2

set_option maxRecDepth 100000 in
theorem lifted (os : Os) (started : os.Started) (H : Type) (enc : TypeId × Value → H) :
    ReturnsInHanded {} Try.checked os 7 .any (Rows.rowTotalSpec.pre6 enc Try.prog Try.f7 Rows.rowTotalRow.domain false) (Rows.rowTotalSpec.post enc Try.prog Try.f7 false true false false) := by
  refine returnsInHanded_of_change (C := Try.checked) Try.own_ started (by kernel_rfl) Try.func7
    (ChangeSpec.witness6 (enc := enc) (C := Try.checked) false ⟨#[], #[.slice none 0 0, .slice none 0 0, .slice none 0 0], []⟩ 8 (by kernel_rfl) (by kernel_rfl) (by kernel_rfl) (by kernel_rfl)) ?_
  intro W base args ds gs before hval hW _ _
  exact contract H enc W base args ds gs before hval hW

theorem holds : Rows.RowTotalSaid :=
  OpenClaim.holds_of_wide 7 Try.f7 rfl rfl rfl rfl rfl rfl rfl ⟨rfl, rfl, rfl, rfl, rfl⟩ rfl rfl rfl rfl rfl (by kernel_rfl) Try.func7 (by kernel_rfl)
    (of_decide_eq_true (by kernel_rfl)) (by unfold Func.isWrapper; first | (rw [if_pos (by decide +kernel)]; kernel_rfl) | (rw [if_neg (by decide +kernel)]; exact ⟨rfl, rfl⟩))
    (fun os started H enc _ => lifted os started H enc)
end Go.Proofs.Ytijhcoidhlmecaa.rowTotal
