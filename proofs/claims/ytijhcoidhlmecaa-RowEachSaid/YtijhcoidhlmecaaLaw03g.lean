/- Whatever columns and row come in: RowEach answers true: a row may stand in columns just if each of its values may stand in its own one alone; the error is the first one's. No condition. -/
import Derived.Test.YtijhcoidhlmecaaRows
import Derived.Test.YtijhcoidhlmecaaLaw
import Derived.Test.YtijhcoidhlmecaaLaw
import Derived.Test.YtijhcoidhlmecaaRowLaw
import Derived.Deep.RegionHeld3
import Derived.Test.YtijhcoidhlmecaaRowCut
namespace Go.Proofs.Ytijhcoidhlmecaa.rowEach
open Go.ChangeShapes Go.WideShapes Go.ChangeAt Go.RowKit Go.ChangeMaps

set_option maxHeartbeats 6400000 in
theorem walk (A B : Option Addr) (n c m d : Nat) (cs : List C4) (r : List V3) (w : World) (hc : RdC w A n c cs) (hv : RdV w B m d r) :
    Calls Try.prog 9 #[.slice A n c, .slice B m d] w fun e w' => e = .returned (.bool true) ∧ Below w.heap.size w w' := by
  have hle := hc.le; have hle2 := hv.le; have hcap := hc.cap; have hcap2 := hv.cap
  have HC := Lib.hid hc; have HV := Lib.hid hv
  have SZ := @few_sizes [⟨B, m, d, r⟩]
  have FE : Hid (∀ g W, Below w.heap.size w W → W.heap.size = g → Calls Try.prog 10 #[.slice (some ⟨g, 0, none⟩) 1 1] (W.alloc (.cells #[.slice B m d] 24)) fun e w' => e = .returned (.bool (fewZ [⟨B, m, d, r⟩])) ∧ Below (W.alloc (.cells #[.slice B m d] 24)).heap.size (W.alloc (.cells #[.slice B m d] 24)) w') :=
    Lib.hid fun g W hW hg => few1 g hg (HV.out.below hW)
  clear hc hv
  generalize fewZ [⟨B, m, d, r⟩] = f at FE SZ
  by_cases hn : n ≤ 60
  rotate_left
  · have hni : (60 : Int) < n := by omega
    clear FE SZ
    rcases Decidable.em (n = m) with rfl | hnm
    · go_enter Try.func9, Try.ntmps9
      go_wp2_with fail
      refine (alive_any _).mono ?_
      rintro e w1 ⟨rfl, b1⟩
      have B1 := below_then (Below.refl w.heap.size w) b1
      go_wp2
      go_ret
      exact ⟨rfl, B1⟩
    · have hnm2 : ¬ (n : Int) = m := by omega
      go_enter Try.func9, Try.ntmps9
      go_wp2_with fail
      refine (alive_any _).mono ?_
      rintro e w1 ⟨rfl, b1⟩
      have B1 := below_then (Below.refl w.heap.size w) b1
      go_wp2
      go_ret
      exact ⟨rfl, B1⟩
  have hni : ¬ (60 : Int) < n := by omega
  cases f with
  | false =>
    clear SZ
    rcases Decidable.em (n = m) with rfl | hnm
    · go_enter Try.func9, Try.ntmps9
      have BA0 := below_new (Below.refl w.heap.size w) (.cells #[.slice B n d] 24)
      go_wp2_with fail
      refine (FE.out _ _ (Below.refl w.heap.size w) (by simp)).mono ?_
      rintro e w1 ⟨rfl, b1⟩
      have B1 := below_then (BA0) b1
      go_wp2_with fail
      refine (alive_any _).mono ?_
      rintro e w2 ⟨rfl, b2⟩
      have B2 := below_then (B1) b2
      go_wp2
      go_ret
      exact ⟨rfl, B2⟩
    · have hnm2 : ¬ (n : Int) = m := by omega
      go_enter Try.func9, Try.ntmps9
      have BA0 := below_new (Below.refl w.heap.size w) (.cells #[.slice B m d] 24)
      go_wp2_with fail
      refine (FE.out _ _ (Below.refl w.heap.size w) (by simp)).mono ?_
      rintro e w1 ⟨rfl, b1⟩
      have B1 := below_then (BA0) b1
      go_wp2_with fail
      refine (alive_any _).mono ?_
      rintro e w2 ⟨rfl, b2⟩
      have B2 := below_then (B1) b2
      have BA2 := below_new (B2) (.cells #[.slice B m d] 24)
      go_wp2_with fail
      refine (FE.out _ _ (B2) (by simp)).mono ?_
      rintro e w3 ⟨rfl, b3⟩
      have B3 := below_then (BA2) b3
      go_wp2
      go_ret
      exact ⟨rfl, B3⟩
  | true =>
    have SZ := SZ rfl
    have hs : ∀ v ∈ r, v.s.size ≤ 4294967296 := fun v hv => Nat.le_trans ((SZ ⟨B, m, d, r⟩ (by simp)).2 v hv) (by decide)
    have P1 : Hid (∀ W, Below w.heap.size w W → Calls Try.prog 14 #[.slice A n c, .slice B m d] W fun e W' => e = .returned (.int .i64 (rowErr cs r)) ∧ Below W.heap.size W W') :=
      Lib.hid fun W hW => rowRight_any _ _ _ _ _ _ _ _ W (HC.out.below hW) (HV.out.below hW) hs
    have HS := Lib.hid hs
    clear SZ hs
    rcases Decidable.em (n = m) with rfl | hnm
    rotate_left
    · have hnm2 : ¬ (n : Int) = m := by omega
      rw [show rowErr cs r = 1 from if_neg (by rw [HC.out.len, HV.out.len]; exact hnm)] at P1
      go_enter Try.func9, Try.ntmps9
      have BA0 := below_new (Below.refl w.heap.size w) (.cells #[.slice B m d] 24)
      go_wp2_with fail
      refine (FE.out _ _ (Below.refl w.heap.size w) (by simp)).mono ?_
      rintro e w1 ⟨rfl, b1⟩
      have B1 := below_then (BA0) b1
      go_wp2_with fail
      refine (alive_any _).mono ?_
      rintro e w2 ⟨rfl, b2⟩
      have B2 := below_then (B1) b2
      have BA2 := below_new (B2) (.cells #[.slice B m d] 24)
      go_wp2_with fail
      refine (FE.out _ _ (B2) (by simp)).mono ?_
      rintro e w3 ⟨rfl, b3⟩
      have B3 := below_then (BA2) b3
      go_wp2_with fail
      refine (P1.out _ (B3)).mono ?_
      rintro e w4 ⟨rfl, b4⟩
      have B4 := below_then (B3) b4
      go_wp2
      go_ret
      exact ⟨rfl, B4⟩
    · have hrl : rowErr cs r = errZ cs r := if_pos (by rw [HC.out.len, HV.out.len])
      rw [hrl] at P1
      clear hrl
      obtain ⟨er, hER⟩ : ∃ er, Hid (errZ cs r = er) := ⟨_, rfl⟩
      rw [hER.out] at P1
      go_enter Try.func9, Try.ntmps9
      have BA0 := below_new (Below.refl w.heap.size w) (.cells #[.slice B n d] 24)
      go_wp2_with fail
      refine (FE.out _ _ (Below.refl w.heap.size w) (by simp)).mono ?_
      rintro e w1 ⟨rfl, b1⟩
      have B1 := below_then (BA0) b1
      go_wp2_with fail
      go_loopw [5, 51] (fun v i wr => ∃ (k : Nat) (z : Int), k ≤ n ∧ i = .int .i64 k ∧ v = .int .i64 z ∧ Hid (er = if z = 0 then errZ (cs.drop k) (r.drop k) else z) ∧ Below w.heap.size w wr) (fun _ i _ => n - (intOf i).toNat)
      case atStart => exact ⟨0, 0, Nat.zero_le _, rfl, rfl, by show _ = _; rw [← hER.out]; simp, B1⟩
      case round =>
        obtain ⟨k, z, hk, rfl, rfl, hall, hbel⟩ := hrel
        clear BA0 B1
        by_cases hlt : k < n
        · obtain ⟨x, hx⟩ : ∃ x, cs[k]? = some x := ⟨_, List.getElem?_eq_getElem (by rw [HC.out.len]; exact hlt)⟩
          obtain ⟨y, hy⟩ : ∃ y, r[k]? = some y := ⟨_, List.getElem?_eq_getElem (by rw [HV.out.len]; exact hlt)⟩
          have hsl1 := fun W => run_one_col (A := A) hlt hcap W
          have hsl2 := fun W => run_one_row (A := B) hlt hcap2 W
          have hki : (k : Int) ≤ (k : Int) + 1 := by omega
          have hk0 : (0 : Int) ≤ (k : Int) := by omega
          have hkc : (k : Int) + 1 ≤ c := by omega
          have hkd : (k : Int) + 1 ≤ d := by omega
          obtain ⟨er1, hr1, PE⟩ : ∃ er1, Hid (fitZ x y = er1) ∧ Hid (∀ W, Below w.heap.size w W → Calls Try.prog 14 #[.slice (A.map (·.add (k * 4))) 1 (c - k), .slice (B.map (·.add (k * 3))) 1 (d - k)] W fun e W' => e = .returned (.int .i64 er1) ∧ Below W.heap.size W W') :=
            ⟨_, Lib.hid rfl, Lib.hid fun W hW => by
              have := rowRight_any _ _ _ _ _ _ [x] [y] W ((HC.out.one hlt hx).below hW) ((HV.out.one hlt hy).below hW) (fun v hv => HS.out v (by rw [List.mem_singleton] at hv; subst hv; exact List.mem_of_getElem? hy))
              rwa [rowErr_one] at this⟩
          have hnext : Hid (errZ (cs.drop k) (r.drop k) = if er1 = 0 then errZ (cs.drop (k + 1)) (r.drop (k + 1)) else er1) := by
            show _ = _
            rw [drop_at hx, drop_at hy, errZ, hr1.out]
          have hwr : IntKind.i64.wrap ((k : Int) + 1) = (k : Int) + 1 := by rw [IntKind.wrap_i64]; omega
          have BD := hbel.drew
          generalize A.map (·.add (k * 4)) = A1 at hsl1 PE
          generalize B.map (·.add (k * 3)) = B1 at hsl2 PE
          clear hx hy
          go_wp2_with fail
          go_region_held3 (fun W => Below w.heap.size w W)
            (first
              | exact below_then (by assumption) bb
              | exact Below.drew (by assumption)
              | assumption
              | go_keep)
            (first
              | (go_at_call 14; refine (PE.out _ (by assumption)).mono ?_; rintro e wx ⟨rfl, bb⟩))
          all_goals
            have B2 := below_then BD bb
            have HN : Hid (er = if z = 0 then (if er1 = 0 then errZ (cs.drop (k + 1)) (r.drop (k + 1)) else er1) else z) := by show _ = _; rw [hall.out, hnext.out]
            clear hsl1 hsl2 hall hnext
            rcases Decidable.em (z = 0) with rfl | hz
            · go_wp2
              exact ⟨⟨k + 1, er1, by omega, by go_num, rfl, by show _ = _; rw [HN.out, if_pos rfl], B2⟩, by simp [intOf]; omega⟩
            · go_wp2
              exact ⟨⟨k + 1, z, by omega, by go_num, rfl, by show _ = _; rw [HN.out, if_neg hz, if_neg hz], B2⟩, by simp [intOf]; omega⟩
        · have hN : er = z := by
            rw [hall.out, List.drop_of_length_le (by rw [HC.out.len]; omega), List.drop_of_length_le (by rw [HV.out.len]; omega)]
            split
            · rename_i h; rw [h]; rfl
            · rfl
          subst hN
          go_wp2_with fail
          refine (alive_any _).mono ?_
          rintro e w6 ⟨rfl, b6⟩
          have B6 := below_then (hbel) b6
          go_wp2_with fail
          refine (P1.out _ (B6)).mono ?_
          rintro e w7 ⟨rfl, b7⟩
          have B7 := below_then (B6) b7
          go_wp2
          go_ret
          exact ⟨rfl, B7⟩

theorem contract (H : Type) (enc : TypeId × Value → H) (W : World) (base : Nat) (args : Array Value) (ds gs : List (DataW H)) (before : List MemPlace)
    (hval : ∀ (j : Nat) t v, Try.f9.params[j]? = some t → args[j]? = some v → Value.okWide Try.prog W .any base t v)
    (hW : DataW.Whole enc Try.prog Try.f9.params.toList Rows.rowEachSpec.vars false W args.toList ds gs before) :
    Calls Try.prog 9 args W fun e W' => ∃ v, e = .returned v ∧ Rows.rowEachSpec.post enc Try.prog Try.f9 false true false false W args v W' := by
  have hlt : ∀ x ∈ before, x.block < W.heap.size := fun x hx => by simpa using hW.lt x hx
  refine law_step 4 Try.laid_ (by kernel_rfl) rfl Try.underlying4 rfl hW (fun xs hx => ?_) ?_
  · match xs, hx with
    | [d0, d1], _ => rfl
  · obtain ⟨p, q, hA0, hV, rfl, _, _⟩ := hW
    have hA : DataW.TrodAll enc Try.prog W 0 (fun _ => true) true Try.f9.params.toList args.toList ds p := hA0
    rw [Try.params9] at hA hval
    obtain ⟨v0, vs0, d0, ds0, p0, q0, e0, rfl, rfl, h0, r0⟩ := trodAll_cons hA
    obtain ⟨v1, vs1, d1, ds1, p1, q1, e1, rfl, rfl, h1, r1⟩ := trodAll_cons r0
    obtain ⟨rfl, rfl, rfl⟩ := trodAll_nil r1
    subst e1
    obtain rfl : args = #[v0, v1] := by cases args; simp_all
    clear e0 hA0
    obtain ⟨A0, n0, c0, cs, rfl, rd0⟩ := open_cols (hval 0 22 v0 rfl rfl) h0
    obtain ⟨A1, n1, c1, r, rfl, rd1, wf1⟩ := open_row (hval 1 24 v1 rfl rfl) h1
    exact walk A0 A1 n0 c0 n1 c1 cs r W rd0 rd1

set_option maxRecDepth 100000 in
theorem lifted (os : Os) (started : os.Started) (H : Type) (enc : TypeId × Value → H) :
    ReturnsInHanded {} Try.checked os 9 .any (Rows.rowEachSpec.pre6 enc Try.prog Try.f9 Rows.rowEachRow.domain false) (Rows.rowEachSpec.post enc Try.prog Try.f9 false true false false) := by
  refine returnsInHanded_of_change (C := Try.checked) Try.own_ started (by kernel_rfl) Try.func9
    (ChangeSpec.witness6 (enc := enc) (C := Try.checked) false ⟨#[], #[.slice none 0 0, .slice none 0 0], []⟩ 8 (by kernel_rfl) (by kernel_rfl) (by kernel_rfl) (by kernel_rfl)) ?_
  intro W base args ds gs before hval hW _ _
  exact contract H enc W base args ds gs before hval hW

theorem holds : Rows.RowEachSaid :=
  OpenClaim.holds_of_wide 9 Try.f9 rfl rfl rfl rfl rfl rfl rfl ⟨rfl, rfl, rfl, rfl, rfl⟩ rfl rfl rfl rfl rfl (by kernel_rfl) Try.func9 (by kernel_rfl)
    (of_decide_eq_true (by kernel_rfl)) (by unfold Func.isWrapper; first | (rw [if_pos (by decide +kernel)]; kernel_rfl) | (rw [if_neg (by decide +kernel)]; exact ⟨rfl, rfl⟩))
    (fun os started H enc _ => lifted os started H enc)
end Go.Proofs.Ytijhcoidhlmecaa.rowEach
