/- Whatever bytes come in: RowGets answers true: the row with which any bytes begin, or that there is none, is what the document says; it is of right values, and its bytes are those. No condition. -/
import Derived.Test.YtijhcoidhlmecaaRows
import Derived.Test.YtijhcoidhlmecaaLaw
import Derived.Test.YtijhcoidhlmecaaLaw
import Derived.Test.YtijhcoidhlmecaaRowLaw
import Derived.Deep.RegionHeld3
import Derived.Test.YtijhcoidhlmecaaRowBack
import Derived.Test.YtijhcoidhlmecaaTail
namespace Go.Proofs.Ytijhcoidhlmecaa.rowGets
open Go.ChangeShapes Go.WideShapes Go.ChangeAt Go.RowKit Go.ChangeMaps

set_option maxHeartbeats 6400000 in
theorem walk (A : Option Addr) (n c : Nat) (l : List Int) (w : World) (hb : Rd w A n c (vals .u8 l)) (hbr : ∀ x ∈ l, 0 ≤ x ∧ x ≤ 255) :
    Calls Try.prog 6 #[.slice A n c] w fun e w' => e = .returned (.bool true) ∧ Below w.heap.size w w' := by
  have hle := hb.le
  have hcap := hb.cap
  have hll : l.length = n := by simpa using hb.len
  have HB := Lib.hid hb; have HR := Lib.hid hbr; have HLL := Lib.hid hll
  clear hb hbr hll
  by_cases hn : n ≤ 1000
  rotate_left
  · have hni : (1000 : Int) < n := by omega
    go_enter Try.func6, Try.ntmps6
    go_wp2_with fail
    refine (alive_any _).mono ?_
    rintro e w1 ⟨rfl, b1⟩
    have B1 := below_then (Below.refl w.heap.size w) b1
    go_wp2
    go_ret
    exact ⟨rfl, B1⟩
  have hni : ¬ (1000 : Int) < n := by omega
  have G1 : Hid (∀ W, Below w.heap.size w W → Calls Try.prog 22 #[.slice A n c] W fun e W' => GotRow (rowGetZ l) W e W') := Lib.hid fun W hW => rowGet_any _ _ _ _ W (HB.out.below hW) HR.out (by omega)
  have G2 : Hid (∀ W, Below w.heap.size w W → Calls Try.prog 25 #[.slice A n c] W fun e W' => GotRow (rowGetZ l) W e W') := Lib.hid fun W hW => refRowGet_any _ _ _ _ W (HB.out.below hW) HR.out (by omega)
  have SM : Hid (∀ W B m d B' d' a, RdV W B m d a → RdV W B' m d' a → Calls Try.prog 20 #[.slice B m d, .slice B' m d'] W fun e W' => e = .returned (.bool true) ∧ Below W.heap.size W W') :=
    Lib.hid fun W B m d B' d' a h1 h2 => by
      have := refRowSame_any _ _ _ _ _ _ _ _ W h1 h2
      rwa [(sameR_iff a a).2 rfl] at this
  cases hg : rowGetZ l with
  | none =>
    rw [hg] at G1 G2
    go_enter Try.func6, Try.ntmps6
    go_wp2_with fail
    refine (G1.out _ (Below.refl w.heap.size w)).mono ?_
    rintro e w1 ⟨b1, hx, -⟩
    have B1 := below_then (Below.refl w.heap.size w) b1
    obtain rfl := hx rfl
    go_wp2_with fail
    refine (G2.out _ (B1)).mono ?_
    rintro e w2 ⟨b2, hx, -⟩
    have B2 := below_then (B1) b2
    obtain rfl := hx rfl
    go_wp2_with fail
    refine (SM.out _ _ _ _ _ _ [] (RdG.nil_ _) (RdG.nil_ _)).mono ?_
    rintro e w3 ⟨rfl, b3⟩
    have B3 := below_then (B2) b3
    have BD := B3.drew
    clear hg
    go_wp2_with fail
    refine wp_region_noPanic ?_
    refine wp_region_held_drew (S := fun W => Below w.heap.size w W) (by kernel_rfl) BD (fun hHeld => ?_)
    refine wpAnyH_ready (rs := [0]) (by kernel_rfl) (by simp) (AllReadyH.cons rfl (fun K hK => ?_) AllReadyH.nil)
    go_simp
    refine (alive_any _).mono ?_
    rintro e wx ⟨rfl, bb⟩
    (try go_wp2_with fail)
    refine hK.out _ _ (below_then BD bb) (fun hHeld => ?_)
    clear hK K
    try simp only [Act.put, List.setIfInBounds_toArray, List.set_cons_zero, List.set_cons_succ]
    refine wpAnyH_puts (by kernel_rfl) (fun _ _ _ _ _ h => h) hHeld [1, 2] 21 [(some 40, .bool true), (some 41, .int .i64 3)] (by kernel_rfl) (by kernel_rfl) ?_
    (try simp only [putsOf, Act.put, List.setIfInBounds_toArray, List.set_cons_zero, List.set_cons_succ])
    refine wpAnyH_one (by kernel_rfl) (fun _ _ _ _ _ h => h) hHeld 3 20 (some 42) (.bool true) _ (by rfl) (by rfl) (by kernel_rfl) (by rfl) (fun W _ => ?_) ?_
    · go_simp
    (try simp only [Act.put, List.setIfInBounds_toArray, List.set_cons_zero, List.set_cons_succ])
    refine wpAnyH_puts (by kernel_rfl) (fun _ _ _ _ _ h => h) hHeld [4, 5, 6, 7, 8, 9, 10, 11, 12, 13, 14, 15, 16, 17, 18, 19, 20, 21, 22, 23] 0 [(some 43, .bool true), (some 60, .bool true), (some 61, .bool true), (some 2, .bool true)] (by kernel_rfl) (by kernel_rfl) ?_
    (try simp only [putsOf, Act.put, List.setIfInBounds_toArray, List.set_cons_zero, List.set_cons_succ])
    refine wpAnyH_done (by kernel_rfl) ?_ _
    refine NoPanic.normal ?_
    (try simp only [Act.put, List.setIfInBounds_toArray, List.set_cons_zero, List.set_cons_succ])
    go_wp2
    go_ret
    exact ⟨rfl, hHeld⟩
  | some pr =>
    obtain ⟨vs, M⟩ := pr
    obtain ⟨hM, hL, hr, hsz, hvl⟩ := rowGetZ_some HR.out hg
    rw [HLL.out] at hM hsz hvl
    have hok : ∀ v ∈ vs, v.Ok := fun v hv => right_ok (hr v hv)
    have hall : vs.all V3.right = true := List.all_eq_true.2 hr
    obtain ⟨N, hN⟩ : ∃ N, vs.length = N := ⟨_, rfl⟩
    have G1' : Hid (∀ W, Below w.heap.size w W → Calls Try.prog 22 #[.slice A n c] W fun e W' => ∃ A' c', e = .returned (.tuple #[.slice A' N c', .int .i64 (M : Int), .int .i64 0]) ∧ RdV W' A' N c' vs ∧ Below W.heap.size W W') := Lib.hid fun W hW => (G1.out W hW).mono fun e W' ⟨b, _, h⟩ => by
      obtain ⟨A', c', h1, h2⟩ := h _ _ hg
      rw [hN] at h1 h2
      exact ⟨A', c', h1, h2, b⟩
    have G2' : Hid (∀ W, Below w.heap.size w W → Calls Try.prog 25 #[.slice A n c] W fun e W' => ∃ A' c', e = .returned (.tuple #[.slice A' N c', .int .i64 (M : Int), .int .i64 0]) ∧ RdV W' A' N c' vs ∧ Below W.heap.size W W') := Lib.hid fun W hW => (G2.out W hW).mono fun e W' ⟨b, _, h⟩ => by
      obtain ⟨A', c', h1, h2⟩ := h _ _ hg
      rw [hN] at h1 h2
      exact ⟨A', c', h1, h2, b⟩
    have PA : Hid (∀ W A' c', RdV W A' N c' vs → Calls Try.prog 16 #[.slice A' N c'] W fun e W' => e = .returned (.bool true) ∧ Below W.heap.size W W') :=
      Lib.hid fun W A' c' h => by
        have := refAll_any _ _ _ _ W h (fun v hv => Nat.le_trans (hok v hv).2.2 (by decide))
        rwa [hall] at this
    have HUP : Hid (Rd w A M c (vals .u8 (rowZ vs))) := by
      have h := HB.out.upto (k := M) (m := c) hM (by omega) (Nat.le_refl _)
      show Rd _ _ _ _ _
      rw [← hL, vals, List.map_take]; exact h
    have BY : Hid (∀ W A' c', RdV W A' N c' vs → Calls Try.prog 21 #[.slice A' N c'] W fun e W' => ∃ A2 c2, e = .returned (.slice A2 M c2) ∧ Rd W' A2 M c2 (vals .u8 (rowZ vs)) ∧ Below W.heap.size W W') :=
      Lib.hid fun W A' c' h => fresh_len (rowBytes_any _ _ _ _ W h hok (by omega)) (by rw [← hL, List.length_take, HLL.out]; omega)
    have hup := fun W => run_upto (A := A) (n := n) (c := c) (m := M) (by omega) W
    have hMi : (M : Int) ≤ n := by omega
    have hM0 : (0 : Int) ≤ (M : Int) := by omega
    have hMc : (M : Int) ≤ c := by omega
    generalize rowZ vs = L at HUP BY
    have SB : Hid (∀ W A2 c2, Below w.heap.size w W → Rd W A2 M c2 (vals .u8 L) → Calls Try.prog 23 #[.slice A2 M c2, .slice A M c] W fun e W' => e = .returned (.bool true) ∧ Below W.heap.size W W') :=
      Lib.hid fun W A2 c2 hW h => (same_is L L h (HUP.out.below hW) (r := true) (by simp)).mono fun e W' ⟨h1, h2⟩ => ⟨h1, h2.below _⟩
    clear hg hL hr hsz hvl hok hall hN G1 G2
    go_enter Try.func6, Try.ntmps6
    go_wp2_with fail
    refine (G1'.out _ (Below.refl w.heap.size w)).mono ?_
    rintro e w1 ⟨A1, c1, rfl, rd1, b1⟩
    have B1 := below_then (Below.refl w.heap.size w) b1
    have R1 := Lib.hid rd1
    clear rd1
    go_wp2_with fail
    refine (G2'.out _ (B1)).mono ?_
    rintro e w2 ⟨A2, c2, rfl, rd2, b2⟩
    have B2 := below_then (B1) b2
    have R1 := Lib.hid (R1.out.below b2); have R2 := Lib.hid rd2
    clear rd2
    go_wp2_with fail
    refine (SM.out _ _ _ _ _ _ vs R1.out R2.out).mono ?_
    rintro e w3 ⟨rfl, b3⟩
    have B3 := below_then (B2) b3
    have R1 := Lib.hid (R1.out.below b3)
    have PA1 := Lib.hid (fun W (h : Below w3.heap.size w3 W) => PA.out W _ _ (R1.out.below h))
    have BY1 := Lib.hid (fun W (h : Below w3.heap.size w3 W) => BY.out W _ _ (R1.out.below h))
    have SB1 := Lib.hid (fun W A2 c2 (h : Below w3.heap.size w3 W) => SB.out W A2 c2 (below_then B3 h))
    have BR := Below.refl w3.heap.size w3
    have BD := BR.drew
    go_wp2_with fail
    go_region_held3 (fun W => Below w3.heap.size w3 W)
      (first
        | exact below_then (by assumption) bb
        | exact BD
        | assumption
        | go_keep)
      (first
        | (go_at_call 11; refine (alive_any _).mono ?_; rintro e wx ⟨rfl, bb⟩)
        | (go_at_call 16; refine (PA1.out _ (by assumption)).mono ?_; rintro e wx ⟨rfl, bb⟩)
        | (go_at_call 21; refine (BY1.out _ (by assumption)).mono ?_; rintro e wx ⟨A7, c7, rfl, rd7, bb⟩)
        | (go_at_call 23; refine (SB1.out _ _ _ (by assumption) rd7).mono ?_; rintro e wx ⟨rfl, bb⟩))
    all_goals
      have BZ := below_then B3 (by assumption)
      go_wp2
      go_ret
      exact ⟨rfl, BZ⟩

theorem contract (H : Type) (enc : TypeId × Value → H) (W : World) (base : Nat) (args : Array Value) (ds gs : List (DataW H)) (before : List MemPlace)
    (hval : ∀ (j : Nat) t v, Try.f6.params[j]? = some t → args[j]? = some v → Value.okWide Try.prog W .any base t v)
    (hW : DataW.Whole enc Try.prog Try.f6.params.toList Rows.rowGetsSpec.vars false W args.toList ds gs before) :
    Calls Try.prog 6 args W fun e W' => ∃ v, e = .returned v ∧ Rows.rowGetsSpec.post enc Try.prog Try.f6 false true false false W args v W' := by
  have hlt : ∀ x ∈ before, x.block < W.heap.size := fun x hx => by simpa using hW.lt x hx
  refine law_step 4 Try.laid_ (by kernel_rfl) rfl Try.underlying4 rfl hW (fun xs hx => ?_) ?_
  · match xs, hx with
    | [d0], _ => rfl
  · obtain ⟨p, q, hA0, hV, rfl, _, _⟩ := hW
    have hA : DataW.TrodAll enc Try.prog W 0 (fun _ => true) true Try.f6.params.toList args.toList ds p := hA0
    rw [Try.params6] at hA hval
    obtain ⟨v0, vs0, d0, ds0, p0, q0, e0, rfl, rfl, h0, r0⟩ := trodAll_cons hA
    obtain ⟨rfl, rfl, rfl⟩ := trodAll_nil r0
    obtain rfl : args = #[v0] := by cases args; simp_all
    clear e0 hA0
    obtain ⟨A0, n0, c0, l, rfl, rd0, wf0⟩ := open_sl (k := .u8) Try.underlying35 Try.underlying5 (by kernel_rfl) (hval 0 35 v0 rfl rfl) h0 (fun x hx => hlt x (by simp [hx]))
    exact walk A0 n0 c0 l W rd0 (fun x hx => wf_u8 (wf0 x hx))

set_option maxRecDepth 100000 in
theorem lifted (os : Os) (started : os.Started) (H : Type) (enc : TypeId × Value → H) :
    ReturnsInHanded {} Try.checked os 6 .any (Rows.rowGetsSpec.pre6 enc Try.prog Try.f6 Rows.rowGetsRow.domain false) (Rows.rowGetsSpec.post enc Try.prog Try.f6 false true false false) := by
  refine returnsInHanded_of_change (C := Try.checked) Try.own_ started (by kernel_rfl) Try.func6
    (ChangeSpec.witness6 (enc := enc) (C := Try.checked) false ⟨#[], #[.slice none 0 0], []⟩ 8 (by kernel_rfl) (by kernel_rfl) (by kernel_rfl) (by kernel_rfl)) ?_
  intro W base args ds gs before hval hW _ _
  exact contract H enc W base args ds gs before hval hW

theorem holds : Rows.RowGetsSaid :=
  OpenClaim.holds_of_wide 6 Try.f6 rfl rfl rfl rfl rfl rfl rfl ⟨rfl, rfl, rfl, rfl, rfl⟩ rfl rfl rfl rfl rfl (by kernel_rfl) Try.func6 (by kernel_rfl)
    (of_decide_eq_true (by kernel_rfl)) (by unfold Func.isWrapper; first | (rw [if_pos (by decide +kernel)]; kernel_rfl) | (rw [if_neg (by decide +kernel)]; exact ⟨rfl, rfl⟩))
    (fun os started H enc _ => lifted os started H enc)
end Go.Proofs.Ytijhcoidhlmecaa.rowGets
