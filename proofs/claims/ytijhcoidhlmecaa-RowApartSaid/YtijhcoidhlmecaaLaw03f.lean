/- Whatever rows and value come in: RowApart answers true: rows of right values have the same bytes just if they are the same; a row is ahead of itself with a value more. No condition. -/
import Derived.Test.YtijhcoidhlmecaaRows
import Derived.Test.YtijhcoidhlmecaaLaw
import Derived.Test.YtijhcoidhlmecaaLaw
import Derived.Test.YtijhcoidhlmecaaRowLaw
import Derived.Test.YtijhcoidhlmecaaRowBack
import Derived.Test.YtijhcoidhlmecaaRowOrdMath
import Derived.Test.YtijhcoidhlmecaaRowMore
namespace Go.Proofs.Ytijhcoidhlmecaa.rowApart
open Go.ChangeShapes Go.WideShapes Go.ChangeAt Go.RowKit Go.ChangeMaps

set_option maxHeartbeats 6400000 in
theorem walk (A B : Option Addr) (n c m d : Nat) (a b : List V3) (x : V3) (w : World) (ha : RdV w A n c a) (hb : RdV w B m d b) :
    Calls Try.prog 8 #[.slice A n c, .slice B m d, .agg #[.int .i64 x.k, .int .i64 x.n, .string x.s]] w fun e w' => e = .returned (.bool true) ∧ Below w.heap.size w w' := by
  have hla := ha.len; have hlb := hb.len; have hle := ha.le
  have rx := rdg_new (enc := V3.cells) v3len (w.alloc (.cells #[.int .i64 x.k, .int .i64 x.n, .string x.s] 44)) [x] #[.int .i64 x.k, .int .i64 x.n, .string x.s] 44 (n := 1) (g := w.heap.size + 1) rfl rfl (by decide) (by simp)
  have FE := Lib.hid (few3 (w := (w.alloc (.cells #[.int .i64 x.k, .int .i64 x.n, .string x.s] 44)).alloc (.cells #[.int .i64 x.k, .int .i64 x.n, .string x.s] 44)) (w.heap.size + 2) (by simp) ((ha.alloc _).alloc _) ((hb.alloc _).alloc _) rx)
  have r0 := row_below (heap_alloc_new w (.cells #[.int .i64 x.k, .int .i64 x.n, .string x.s] 44)) (below_new (below_new (Below.refl _ _) (.cells #[.int .i64 x.k, .int .i64 x.n, .string x.s] 44)) (.cells #[.slice A n c, .slice B m d, .slice (some ⟨w.heap.size + 1, 0, none⟩) 1 1] 24))
  have HX := Lib.hid r0
  have BX := below_new (below_new (below_new (Below.refl w.heap.size w) (.cells #[.int .i64 x.k, .int .i64 x.n, .string x.s] 44)) (.cells #[.int .i64 x.k, .int .i64 x.n, .string x.s] 44)) (.cells #[.slice A n c, .slice B m d, .slice (some ⟨w.heap.size + 1, 0, none⟩) 1 1] 24)
  have HA := Lib.hid ha; have HB := Lib.hid hb
  clear ha hb rx r0
  have SZ := @few_sizes [⟨A, n, c, a⟩, ⟨B, m, d, b⟩, ⟨some ⟨w.heap.size + 1, 0, none⟩, 1, 1, [x]⟩]
  generalize fewZ [⟨A, n, c, a⟩, ⟨B, m, d, b⟩, ⟨some ⟨w.heap.size + 1, 0, none⟩, 1, 1, [x]⟩] = f at FE SZ
  cases f with
  | false =>
    clear SZ hla hlb
    go_enter Try.func8, Try.ntmps8
    go_wp2_with fail
    refine (FE.out).mono ?_
    rintro e w1 ⟨rfl, b1⟩
    have B1 := below_then (BX) b1
    go_wp2_with fail
    refine (alive_any _).mono ?_
    rintro e w2 ⟨rfl, b2⟩
    have B2 := below_then (B1) b2
    go_wp2
    go_ret
    exact ⟨rfl, B2⟩
  | true =>
    obtain ⟨hn60, h400⟩ := SZ rfl ⟨A, n, c, a⟩ (by simp)
    obtain ⟨hm60, h401⟩ := SZ rfl ⟨B, m, d, b⟩ (by simp)
    simp only at hn60 h400 hm60 h401
    have PA : Hid (∀ W, Below w.heap.size w W → Calls Try.prog 16 #[.slice A n c] W fun e W' => e = .returned (.bool (a.all V3.right)) ∧ Below W.heap.size W W') :=
      Lib.hid fun W hW => refAll_any _ _ _ _ W (HA.out.below hW) (fun v hv => Nat.le_trans (h400 v hv) (by decide))
    have PB : Hid (∀ W, Below w.heap.size w W → Calls Try.prog 16 #[.slice B m d] W fun e W' => e = .returned (.bool (b.all V3.right)) ∧ Below W.heap.size W W') :=
      Lib.hid fun W hW => refAll_any _ _ _ _ W (HB.out.below hW) (fun v hv => Nat.le_trans (h401 v hv) (by decide))
    cases hall : a.all V3.right with
    | false =>
      rw [hall] at PA
      clear SZ hla hlb hn60 h400 hm60 h401 hall
      go_enter Try.func8, Try.ntmps8
      go_wp2_with fail
      refine (FE.out).mono ?_
      rintro e w1 ⟨rfl, b1⟩
      have B1 := below_then (BX) b1
      go_wp2_with fail
      refine (PA.out _ (B1)).mono ?_
      rintro e w2 ⟨rfl, b2⟩
      have B2 := below_then (B1) b2
      go_wp2_with fail
      refine (alive_any _).mono ?_
      rintro e w3 ⟨rfl, b3⟩
      have B3 := below_then (B2) b3
      go_wp2
      go_ret
      exact ⟨rfl, B3⟩
    | true =>
      rw [hall] at PA
      cases hbll : b.all V3.right with
      | false =>
        rw [hbll] at PB
        clear SZ hla hlb hn60 h400 hm60 h401 hall hbll
        go_enter Try.func8, Try.ntmps8
        go_wp2_with fail
        refine (FE.out).mono ?_
        rintro e w1 ⟨rfl, b1⟩
        have B1 := below_then (BX) b1
        go_wp2_with fail
        refine (PA.out _ (B1)).mono ?_
        rintro e w2 ⟨rfl, b2⟩
        have B2 := below_then (B1) b2
        go_wp2_with fail
        refine (PB.out _ (B2)).mono ?_
        rintro e w3 ⟨rfl, b3⟩
        have B3 := below_then (B2) b3
        go_wp2_with fail
        refine (alive_any _).mono ?_
        rintro e w4 ⟨rfl, b4⟩
        have B4 := below_then (B3) b4
        go_wp2
        go_ret
        exact ⟨rfl, B4⟩
      | true =>
        rw [hbll] at PB
        have hr : ∀ v ∈ a, v.right = true := List.all_eq_true.1 hall
        have hr2 : ∀ v ∈ b, v.right = true := List.all_eq_true.1 hbll
        rw [hla] at hn60
        rw [hlb] at hm60
        obtain ⟨La, Ma, BYa, Lb, Mb, BYb, s, hs, SS⟩ : ∃ (La : List Int) (Ma : Nat), Hid (∀ W, Below w.heap.size w W → Calls Try.prog 21 #[.slice A n c] W fun e W' => ∃ A' c', e = .returned (.slice A' Ma c') ∧ Rd W' A' Ma c' (vals .u8 La) ∧ Below W.heap.size W W') ∧
            ∃ (Lb : List Int) (Mb : Nat), Hid (∀ W, Below w.heap.size w W → Calls Try.prog 21 #[.slice B m d] W fun e W' => ∃ A' c', e = .returned (.slice A' Mb c') ∧ Rd W' A' Mb c' (vals .u8 Lb) ∧ Below W.heap.size W W') ∧
            ∃ s, Hid (decide (La = Lb) = s) ∧ Hid (∀ W, Below w.heap.size w W → Calls Try.prog 19 #[.slice A n c, .slice B m d] W fun e W' => e = .returned (.bool s) ∧ Below W.heap.size W W') :=
          ⟨rowZ a, (rowZ a).length, Lib.hid fun W hW => fresh_len (rowBytes_any _ _ _ _ W (HA.out.below hW) (fun v hv => right_ok (hr v hv)) (by omega)) rfl,
           rowZ b, (rowZ b).length, Lib.hid fun W hW => fresh_len (rowBytes_any _ _ _ _ W (HB.out.below hW) (fun v hv => right_ok (hr2 v hv)) (by omega)) rfl,
           sameR a b, Lib.hid (rowZ_inj hr hr2 (by omega) (by omega)), Lib.hid fun W hW => rowSame_any _ _ _ _ _ _ _ _ W (HA.out.below hW) (HB.out.below hW)⟩
        have L1 : Hid (∀ W A' c', Below w.heap.size w W → RdV W A' (n + 1) c' (a ++ [x]) → Calls Try.prog 17 #[.slice A n c, .slice A' (n + 1) c'] W fun e W' => e = .returned (.bool true) ∧ Below W.heap.size W W') :=
          Lib.hid fun W A' c' hW h => by
            have := rowLess_any _ _ _ _ _ _ _ _ W (HA.out.below hW) h
            rwa [(rowLess_more a x).1] at this
        have L2 : Hid (∀ W A' c', Below w.heap.size w W → RdV W A' (n + 1) c' (a ++ [x]) → Calls Try.prog 17 #[.slice A' (n + 1) c', .slice A n c] W fun e W' => e = .returned (.bool false) ∧ Below W.heap.size W W') :=
          Lib.hid fun W A' c' hW h => by
            have := rowLess_any _ _ _ _ _ _ _ _ W h (HA.out.below hW)
            rwa [(rowLess_more a x).2] at this
        have hcap := HA.out.cap
        have hfull := fun W => run_fullrow (A := A) (n := n) (c := c) hcap W
        have hni : (0 : Int) ≤ (n : Int) := by omega
        have hnc : (n : Int) ≤ (c : Int) := by omega
        have UP := Lib.hid (HA.out.upto (k := n) (m := n) (Nat.le_refl _) (Nat.le_refl _) hcap)
        rw [List.take_of_length_le (by omega)] at UP
        clear SZ hla hlb h400 h401 hall hbll hr hr2
        go_enter Try.func8, Try.ntmps8
        go_wp2_with fail
        refine (FE.out).mono ?_
        rintro e w1 ⟨rfl, b1⟩
        have B1 := below_then (BX) b1
        have HX := Lib.hid (row_below HX.out b1)
        go_wp2_with fail
        refine (PA.out _ (B1)).mono ?_
        rintro e w2 ⟨rfl, b2⟩
        have B2 := below_then (B1) b2
        have HX := Lib.hid (row_below HX.out b2)
        go_wp2_with fail
        refine (PB.out _ (B2)).mono ?_
        rintro e w3 ⟨rfl, b3⟩
        have B3 := below_then (B2) b3
        have HX := Lib.hid (row_below HX.out b3)
        have x0 := cell_row HX.out 0; have x1 := cell_row HX.out 1; have x2 := cell_row HX.out 2
        simp only [List.getElem?_toArray, List.getElem?_cons_zero, List.getElem?_cons_succ] at x0 x1 x2
        have BD := B3.drew
        have hsz := B3.size
        go_wp2_with fail
        go_region_held3 (fun W => Below w.heap.size w W ∧ W.cell? ⟨w.heap.size, 0, none⟩ = some (.int .i64 x.k) ∧ W.cell? ⟨w.heap.size, 1, none⟩ = some (.int .i64 x.n) ∧ W.cell? ⟨w.heap.size, 2, none⟩ = some (.string x.s))
          (first
            | (go_split_ands
               refine ⟨?_, ?_, ?_, ?_⟩
               · exact below_then (by assumption) bb
               all_goals exact (bb.cell (World.block_lt_of_cell? _ _ (by assumption))).trans (by assumption))
            | (go_split_ands
               refine ⟨?_, ?_, ?_, ?_⟩
               · exact Below.drew (by assumption)
               all_goals (show World.cell? _ _ = _; assumption))
            | (go_split_ands
               refine ⟨?_, ?_, ?_, ?_⟩
               all_goals assumption)
            | (go_split_ands
               refine ⟨?_, ?_, ?_, ?_⟩
               · exact (below_new B3 (.cells #[.int .i64 x.k, .int .i64 x.n, .string x.s] 44)).drew
               all_goals go_keep)
            | go_keep)
          (first
            | ((try go_split_ands); refine step_full3 (by rfl) (.tmp 31) (.tmp 33) (by rfl) A n a _ 0 1 1 [x] (by rfl) (by rfl) (UP.out.below (by assumption)) (rdg_new v3len _ [x] #[.int .i64 x.k, .int .i64 x.n, .string x.s] 44 rfl rfl (by decide) (by simp)) (by decide) (by omega) ?_; intro A4 c4 w4 rd4 bb))
        all_goals
          go_split_ands
          have BF : Below w.heap.size w w4 := by assumption
          have R4 := Lib.hid rd4
          clear x0 x1 x2 hfull rd4 FE HX
          clear BD
          go_wp2_with fail
          refine (alive_any _).mono ?_
          rintro e w5 ⟨rfl, b5⟩
          have B5 := below_then (BF) b5
          have R4 := Lib.hid (R4.out.below b5)
          go_wp2_with fail
          refine (BYa.out _ (B5)).mono ?_
          rintro e w6 ⟨A6, c6, rfl, rd6, b6⟩
          have B6 := below_then (B5) b6
          have R4 := Lib.hid (R4.out.below b6)
          have R6 := Lib.hid rd6
          clear rd6
          go_wp2_with fail
          refine (BYb.out _ (B6)).mono ?_
          rintro e w7 ⟨A7, c7, rfl, rd7, b7⟩
          have B7 := below_then (B6) b7
          have R4 := Lib.hid (R4.out.below b7)
          have R6 := Lib.hid (R6.out.below b7); have R7 := Lib.hid rd7
          clear rd7
          go_wp2_with fail
          refine (same_is La Lb R6.out R7.out hs.out).mono ?_
          rintro e w8 ⟨rfl, q8⟩
          have b8 := q8.below w7.heap.size
          have B8 := below_then (B7) b8
          have R4 := Lib.hid (R4.out.below b8)
          go_wp2_with fail
          refine (SS.out _ (B8)).mono ?_
          rintro e w9 ⟨rfl, b9⟩
          have B9 := below_then (B8) b9
          have R4 := Lib.hid (R4.out.below b9)
          cases s
          all_goals
            go_wp2_with fail
            refine (L1.out _ _ _ (B9) R4.out).mono ?_
            rintro e w10 ⟨rfl, b10⟩
            have B10 := below_then (B9) b10
            have R4 := Lib.hid (R4.out.below b10)
            go_wp2_with fail
            refine (L2.out _ _ _ (B10) R4.out).mono ?_
            rintro e w11 ⟨rfl, b11⟩
            have B11 := below_then (B10) b11
            go_wp2
            go_ret
            exact ⟨rfl, B11⟩

theorem contract (H : Type) (enc : TypeId × Value → H) (W : World) (base : Nat) (args : Array Value) (ds gs : List (DataW H)) (before : List MemPlace)
    (hval : ∀ (j : Nat) t v, Try.f8.params[j]? = some t → args[j]? = some v → Value.okWide Try.prog W .any base t v)
    (hW : DataW.Whole enc Try.prog Try.f8.params.toList Rows.rowApartSpec.vars false W args.toList ds gs before) :
    Calls Try.prog 8 args W fun e W' => ∃ v, e = .returned v ∧ Rows.rowApartSpec.post enc Try.prog Try.f8 false true false false W args v W' := by
  have hlt : ∀ x ∈ before, x.block < W.heap.size := fun x hx => by simpa using hW.lt x hx
  refine law_step 4 Try.laid_ (by kernel_rfl) rfl Try.underlying4 rfl hW (fun xs hx => ?_) ?_
  · match xs, hx with
    | [d0, d1, d2], _ => rfl
  · obtain ⟨p, q, hA0, hV, rfl, _, _⟩ := hW
    have hA : DataW.TrodAll enc Try.prog W 0 (fun _ => true) true Try.f8.params.toList args.toList ds p := hA0
    rw [Try.params8] at hA hval
    obtain ⟨v0, vs0, d0, ds0, p0, q0, e0, rfl, rfl, h0, r0⟩ := trodAll_cons hA
    obtain ⟨v1, vs1, d1, ds1, p1, q1, e1, rfl, rfl, h1, r1⟩ := trodAll_cons r0
    obtain ⟨v2, vs2, d2, ds2, p2, q2, e2, rfl, rfl, h2, r2⟩ := trodAll_cons r1
    obtain ⟨rfl, rfl, rfl⟩ := trodAll_nil r2
    subst e2
    subst e1
    obtain rfl : args = #[v0, v1, v2] := by cases args; simp_all
    clear e0 hA0
    obtain ⟨A0, n0, c0, a, rfl, rd0, wf0⟩ := open_row (hval 0 24 v0 rfl rfl) h0
    obtain ⟨A1, n1, c1, b, rfl, rd1, wf1⟩ := open_row (hval 1 24 v1 rfl rfl) h1
    obtain ⟨x2, rfl, wf2⟩ := open_val (hval 2 44 v2 rfl rfl) h2
    exact walk A0 A1 n0 c0 n1 c1 a b x2 W rd0 rd1

set_option maxRecDepth 100000 in
theorem lifted (os : Os) (started : os.Started) (H : Type) (enc : TypeId × Value → H) :
    ReturnsInHanded {} Try.checked os 8 .any (Rows.rowApartSpec.pre6 enc Try.prog Try.f8 Rows.rowApartRow.domain false) (Rows.rowApartSpec.post enc Try.prog Try.f8 false true false false) := by
  refine returnsInHanded_of_change (C := Try.checked) Try.own_ started (by kernel_rfl) Try.func8
    (ChangeSpec.witness6 (enc := enc) (C := Try.checked) false ⟨#[], #[.slice none 0 0, .slice none 0 0, .agg #[.int .i64 0, .int .i64 0, .string ⟨#[]⟩]], []⟩ 8 (by kernel_rfl) (by kernel_rfl) (by kernel_rfl) (by kernel_rfl)) ?_
  intro W base args ds gs before hval hW _ _
  exact contract H enc W base args ds gs before hval hW

theorem holds : Rows.RowApartSaid :=
  OpenClaim.holds_of_wide 8 Try.f8 rfl rfl rfl rfl rfl rfl rfl ⟨rfl, rfl, rfl, rfl, rfl⟩ rfl rfl rfl rfl rfl (by kernel_rfl) Try.func8 (by kernel_rfl)
    (of_decide_eq_true (by kernel_rfl)) (by unfold Func.isWrapper; first | (rw [if_pos (by decide +kernel)]; kernel_rfl) | (rw [if_neg (by decide +kernel)]; exact ⟨rfl, rfl⟩))
    (fun os started H enc _ => lifted os started H enc)
end Go.Proofs.Ytijhcoidhlmecaa.rowApart
