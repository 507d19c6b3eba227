/- Whatever row and bytes come in: RowBytes answers true: the bytes of any row of right values are what the document says, and are got as it, whatever stands behind. No condition. -/
import Derived.Test.YtijhcoidhlmecaaRows
import Derived.Test.YtijhcoidhlmecaaLaw
import Derived.Test.YtijhcoidhlmecaaLaw
import Derived.Test.YtijhcoidhlmecaaRowLaw
import Derived.Test.YtijhcoidhlmecaaRowBack
namespace Go.Proofs.Ytijhcoidhlmecaa.rowBytes
open Go.ChangeShapes Go.WideShapes Go.ChangeAt Go.RowKit Go.ChangeMaps

set_option maxHeartbeats 6400000 in
theorem walk (A B : Option Addr) (n c m d : Nat) (a : List V3) (l : List Int) (w : World) (ha : RdV w A n c a) (hb : Rd w B m d (vals .u8 l)) (hbr : ∀ x ∈ l, 0 ≤ x ∧ x ≤ 255) :
    Calls Try.prog 5 #[.slice A n c, .slice B m d] w fun e w' => e = .returned (.bool true) ∧ Below w.heap.size w w' := by
  have hle := hb.le
  have hlen := ha.len
  have FE := Lib.hid (few1 w.heap.size rfl ha)
  have HA := Lib.hid ha; have HB := Lib.hid hb; have HR := Lib.hid hbr
  clear ha hb hbr
  have SZ := @few_sizes [⟨A, n, c, a⟩]
  generalize fewZ [⟨A, n, c, a⟩] = f at FE SZ
  cases f with
  | false =>
    clear SZ hlen
    go_enter Try.func5, Try.ntmps5
    have BA0 := below_new (Below.refl w.heap.size w) (.cells #[.slice A n c] 24)
    go_wp2_with fail
    refine (FE.out).mono ?_
    rintro e w1 ⟨rfl, b1⟩
    have B1 := below_then (BA0) b1
    go_wp2_with fail
    refine (alive_any _).mono ?_
    rintro e w2 ⟨rfl, b2⟩
    have B2 := below_then (B1) b2
    go_wp2
    go_ret
    exact ⟨rfl, B2⟩
  | true =>
    obtain ⟨hn60, h400⟩ := SZ rfl ⟨A, n, c, a⟩ (by simp)
    simp only at hn60 h400
    have PA : Hid (∀ W, Below w.heap.size w W → Calls Try.prog 16 #[.slice A n c] W fun e W' => e = .returned (.bool (a.all V3.right)) ∧ Below W.heap.size W W') :=
      Lib.hid fun W hW => refAll_any _ _ _ _ W (HA.out.below hW) (fun v hv => Nat.le_trans (h400 v hv) (by decide))
    cases hall : a.all V3.right with
    | false =>
      rw [hall] at PA
      clear SZ hlen hn60 h400 hall
      go_enter Try.func5, Try.ntmps5
      have BA0 := below_new (Below.refl w.heap.size w) (.cells #[.slice A n c] 24)
      go_wp2_with fail
      refine (FE.out).mono ?_
      rintro e w1 ⟨rfl, b1⟩
      have B1 := below_then (BA0) b1
      go_wp2_with fail
      refine (PA.out _ (B1)).mono ?_
      rintro e w2 ⟨rfl, b2⟩
      have B2 := below_then (B1) b2
      go_wp2_with fail
      refine (alive_any _).mono ?_
      rintro e w3 ⟨rfl, b3⟩
      have B3 := below_then (B2) b3
      go_wp2
      go_ret
      exact ⟨rfl, B3⟩
    | true =>
      rw [hall] at PA
      by_cases hm : m ≤ 500
      rotate_left
      · have hmi : (500 : Int) < m := by omega
        clear SZ hlen hn60 h400 hall
        go_enter Try.func5, Try.ntmps5
        have BA0 := below_new (Below.refl w.heap.size w) (.cells #[.slice A n c] 24)
        go_wp2_with fail
        refine (FE.out).mono ?_
        rintro e w1 ⟨rfl, b1⟩
        have B1 := below_then (BA0) b1
        go_wp2_with fail
        refine (PA.out _ (B1)).mono ?_
        rintro e w2 ⟨rfl, b2⟩
        have B2 := below_then (B1) b2
        go_wp2_with fail
        refine (alive_any _).mono ?_
        rintro e w3 ⟨rfl, b3⟩
        have B3 := below_then (B2) b3
        go_wp2
        go_ret
        exact ⟨rfl, B3⟩
      have hmi : ¬ (500 : Int) < m := by omega
      have hr : ∀ v ∈ a, v.right = true := List.all_eq_true.1 hall
      have hok : ∀ v ∈ a, v.Ok := fun v hv => right_ok (hr v hv)
      obtain ⟨L, M, hM, BY, RB, GET⟩ : ∃ (L : List Int) (M : Nat), M ≤ 6100000 ∧
          Hid (∀ W, Below w.heap.size w W → Calls Try.prog 21 #[.slice A n c] W fun e W' => ∃ A' c', e = .returned (.slice A' M c') ∧ Rd W' A' M c' (vals .u8 L) ∧ Below W.heap.size W W') ∧
          Hid (∀ W, Below w.heap.size w W → Calls Try.prog 24 #[.slice A n c] W fun e W' => ∃ A' c', e = .returned (.slice A' M c') ∧ Rd W' A' M c' (vals .u8 L) ∧ Below W.heap.size W W') ∧
          Hid (∀ W A' k c', k ≤ 4294967296 → Rd W A' k c' (vals .u8 (L ++ l)) → Calls Try.prog 22 #[.slice A' k c'] W fun e W' => ∃ A2 c2, e = .returned (.tuple #[.slice A2 n c2, .int .i64 (M : Int), .int .i64 0]) ∧ RdV W' A2 n c2 a ∧ Below W.heap.size W W') := by
        refine ⟨rowZ a, (rowZ a).length, ?_, Lib.hid fun W hW => fresh_len (rowBytes_any _ _ _ _ W (HA.out.below hW) hok (by omega)) rfl, Lib.hid fun W hW => fresh_len (refRowBytes_any _ _ _ _ W (HA.out.below hW) hok (by omega)) rfl, Lib.hid fun W A' k c' hk hW => ?_⟩
        · have := rowZ_len (a := a) (fun v hv => Nat.le_trans (h400 v hv) (by decide))
          omega
        · refine (rowGet_any _ _ _ _ W hW (fun x hx => (List.mem_append.1 hx).elim (rowZ_rng hok (by omega) x) (HR.out x)) hk).mono ?_
          rintro e W' ⟨hb, _, hg⟩
          obtain ⟨A2, c2, h1, h2⟩ := hg _ _ (rowGetZ_put a l hr (by omega))
          rw [hlen] at h1 h2
          exact ⟨A2, c2, h1, h2, hb⟩
      have SA : Hid (∀ W A2 c2, RdV W A n c a → RdV W A2 n c2 a → Calls Try.prog 20 #[.slice A n c, .slice A2 n c2] W fun e W' => e = .returned (.bool true) ∧ Below W.heap.size W W') :=
        Lib.hid fun W A2 c2 h1 h2 => by
          have := refRowSame_any _ _ _ _ _ _ _ _ W h1 h2
          rwa [(sameR_iff a a).2 rfl] at this
      clear SZ hlen hn60 h400 hall hr hok
      go_enter Try.func5, Try.ntmps5
      have BA0 := below_new (Below.refl w.heap.size w) (.cells #[.slice A n c] 24)
      go_wp2_with fail
      refine (FE.out).mono ?_
      rintro e w1 ⟨rfl, b1⟩
      have B1 := below_then (BA0) b1
      go_wp2_with fail
      refine (PA.out _ (B1)).mono ?_
      rintro e w2 ⟨rfl, b2⟩
      have B2 := below_then (B1) b2
      go_wp2_with fail
      refine (BY.out _ (B2)).mono ?_
      rintro e w3 ⟨A3, c3, rfl, rd3, b3⟩
      have B3 := below_then (B2) b3
      have hcap := rd3.cap
      have HF := Lib.hid (rd3.upto (k := M) (m := M) (Nat.le_refl _) (Nat.le_refl _) rd3.cap)
      have HB3 := Lib.hid (HB.out.below B3)
      have R3 := Lib.hid rd3
      clear rd3
      go_wp2_with (at_builtin; refine wpList_full rfl (.tmp 32) (.tmp 33) _ rfl 5 Try.underlying35 _ 1 Try.infoByte rfl (by decide) _ _ _ _ _ _ _ rfl rfl HF.out HB3.out (by omega) ?_; intro A4 c4 w4 rd4 b4)
      have BF := below_then B3 b4
      have R4 := Lib.hid (R3.out.below b4)
      rw [List.take_of_length_le (by rw [R3.out.len]; exact Nat.le_refl _), ← List.map_append] at rd4
      have RD4 := Lib.hid rd4
      clear rd4
      go_wp2_with fail
      refine (GET.out _ _ _ _ (by omega) RD4.out).mono ?_
      rintro e w5 ⟨A5, c5, rfl, rd5, b5⟩
      have B5 := below_then (BF) b5
      have R5 := Lib.hid rd5; have R3 := Lib.hid (R4.out.below b5)
      clear rd5
      go_wp2_with fail
      refine (alive_any _).mono ?_
      rintro e w6 ⟨rfl, b6⟩
      have B6 := below_then (B5) b6
      have R5 := Lib.hid (R5.out.below b6); have R3 := Lib.hid (R3.out.below b6)
      go_wp2_with fail
      refine (RB.out _ (B6)).mono ?_
      rintro e w7 ⟨A7, c7, rfl, rd7, b7⟩
      have B7 := below_then (B6) b7
      have R5 := Lib.hid (R5.out.below b7); have R3 := Lib.hid (R3.out.below b7); have R7 := Lib.hid rd7
      clear rd7
      go_wp2_with fail
      refine (same_is L L R3.out R7.out (r := true) (by simp)).mono ?_
      rintro e w8 ⟨rfl, q8⟩
      have b8 := q8.below w7.heap.size
      have B8 := below_then (B7) b8
      have R5 := Lib.hid (R5.out.below b8)
      go_wp2_with fail
      refine (SA.out _ _ _ (HA.out.below (B8)) R5.out).mono ?_
      rintro e w9 ⟨rfl, b9⟩
      have B9 := below_then (B8) b9
      go_wp2
      go_ret
      exact ⟨rfl, B9⟩

theorem contract (H : Type) (enc : TypeId × Value → H) (W : World) (base : Nat) (args : Array Value) (ds gs : List (DataW H)) (before : List MemPlace)
    (hval : ∀ (j : Nat) t v, Try.f5.params[j]? = some t → args[j]? = some v → Value.okWide Try.prog W .any base t v)
    (hW : DataW.Whole enc Try.prog Try.f5.params.toList Rows.rowBytesSpec.vars false W args.toList ds gs before) :
    Calls Try.prog 5 args W fun e W' => ∃ v, e = .returned v ∧ Rows.rowBytesSpec.post enc Try.prog Try.f5 false true false false W args v W' := by
  have hlt : ∀ x ∈ before, x.block < W.heap.size := fun x hx => by simpa using hW.lt x hx
  refine law_step 4 Try.laid_ (by kernel_rfl) rfl Try.underlying4 rfl hW (fun xs hx => ?_) ?_
  · match xs, hx with
    | [d0, d1], _ => rfl
  · obtain ⟨p, q, hA0, hV, rfl, _, _⟩ := hW
    have hA : DataW.TrodAll enc Try.prog W 0 (fun _ => true) true Try.f5.params.toList args.toList ds p := hA0
    rw [Try.params5] at hA hval
    obtain ⟨v0, vs0, d0, ds0, p0, q0, e0, rfl, rfl, h0, r0⟩ := trodAll_cons hA
    obtain ⟨v1, vs1, d1, ds1, p1, q1, e1, rfl, rfl, h1, r1⟩ := trodAll_cons r0
    obtain ⟨rfl, rfl, rfl⟩ := trodAll_nil r1
    subst e1
    obtain rfl : args = #[v0, v1] := by cases args; simp_all
    clear e0 hA0
    obtain ⟨A0, n0, c0, a, rfl, rd0, wf0⟩ := open_row (hval 0 24 v0 rfl rfl) h0
    obtain ⟨A1, n1, c1, l, rfl, rd1, wf1⟩ := open_sl (k := .u8) Try.underlying35 Try.underlying5 (by kernel_rfl) (hval 1 35 v1 rfl rfl) h1 (fun x hx => hlt x (by simp [hx]))
    exact walk A0 A1 n0 c0 n1 c1 a l W rd0 rd1 (fun x hx => wf_u8 (wf1 x hx))

set_option maxRecDepth 100000 in
theorem lifted (os : Os) (started : os.Started) (H : Type) (enc : TypeId × Value → H) :
    ReturnsInHanded {} Try.checked os 5 .any (Rows.rowBytesSpec.pre6 enc Try.prog Try.f5 Rows.rowBytesRow.domain false) (Rows.rowBytesSpec.post enc Try.prog Try.f5 false true false false) := by
  refine returnsInHanded_of_change (C := Try.checked) Try.own_ started (by kernel_rfl) Try.func5
    (ChangeSpec.witness6 (enc := enc) (C := Try.checked) false ⟨#[], #[.slice none 0 0, .slice none 0 0], []⟩ 8 (by kernel_rfl) (by kernel_rfl) (by kernel_rfl) (by kernel_rfl)) ?_
  intro W base args ds gs before hval hW _ _
  exact contract H enc W base args ds gs before hval hW

theorem holds : Rows.RowBytesSaid :=
  OpenClaim.holds_of_wide 5 Try.f5 rfl rfl rfl rfl rfl rfl rfl ⟨rfl, rfl, rfl, rfl, rfl⟩ rfl rfl rfl rfl rfl (by kernel_rfl) Try.func5 (by kernel_rfl)
    (of_decide_eq_true (by kernel_rfl)) (by unfold Func.isWrapper; first | (rw [if_pos (by decide +kernel)]; kernel_rfl) | (rw [if_neg (by decide +kernel)]; exact ⟨rfl, rfl⟩))
    (fun os started H enc _ => lifted os started H enc)
end Go.Proofs.Ytijhcoidhlmecaa.rowBytes
