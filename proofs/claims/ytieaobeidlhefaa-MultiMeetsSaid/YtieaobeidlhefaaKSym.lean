/- slices.symMergeCmpFunc at structs: two parts that stand in order, side by side, are merged. -/
import Derived.Test.YtieaobeidlhefaaKSym2
import Derived.Shelf.SlSortCmp.QuietGrown
import Derived.Shelf.RegionOpenPlain
import Derived.BigRegion
import Derived.IntWalk
import Derived.Shelf.Abstract
import Derived.Deep.DeepCutAuto
import Derived.Deep.CutBlock
namespace Go.Proofs.Ytieaobeidlhefaa
set_option maxRecDepth 100000
open Go.RowKit Go.Sort Srt
variable {α : Type} {Pg : Program} {enc : α → List Value} {k : Nat}

set_option maxHeartbeats 6400000 in
theorem symMergeK_any {lt : α → α → Bool} (hw : Weak lt) (L : LayK Pg k) (henc : EncK enc k) (g : Nat) (cb : Array Value) (blk off cap n : Nat) (w0 : World)
    (eg : ∀ args w, (callFunc g args).run Pg w = .ok (.enter g args) w) (hcmp : CmpK Pg g cb enc k lt blk off n w0) (hmax : n < 1000000000000000000) :
    ∀ (z a m b : Nat) (X U V Y : List α) (w : World), U.length + V.length ≤ z → 0 < U.length → 0 < V.length →
    (X ++ U ++ V ++ Y).length = n → X.length = a → a + U.length = m → m + V.length = b → Sorted lt U → Sorted lt V →
    SwK enc k w0 blk off (X ++ U ++ V ++ Y) w →
    Calls Pg 93 #[.slice (some ⟨blk, off, none⟩) n cap, .int .i64 a, .int .i64 m, .int .i64 b, .func (.func g) #[] cb] w fun e w' => e = .returned (.tuple #[]) ∧ SwK enc k w0 blk off (X ++ merge lt U V ++ Y) w' := by
  intro z
  induction z with
  | zero => intro a m b X U V Y w h1 h2; omega
  | succ z ih =>
  intro a m b X U V Y w hz hu hv hn ha hm hb hsu hsv HS
  rcases Nat.lt_or_ge U.length 2 with h1 | h1
  · obtain ⟨x, rfl⟩ : ∃ x, U = [x] := List.length_eq_one_iff.1 (by omega)
    exact symMergeK_left hw L henc g cb blk off cap a m b n X V Y x w0 w eg hcmp hn ha (by simp at hm; omega) hb hsv hmax HS
  rcases Nat.lt_or_ge V.length 2 with h2 | h2
  · obtain ⟨x, rfl⟩ : ∃ x, V = [x] := List.length_eq_one_iff.1 (by omega)
    exact symMergeK_right hw L henc g cb blk off cap a m b n X U Y x w0 w eg hcmp hn ha hm (by simp at hb; omega) h1 hsu hmax HS
  have hbn : b ≤ n := by simp at hn; omega
  obtain ⟨F, hF⟩ : ∃ F, Hid (F = X ++ merge lt U V ++ Y) := ⟨_, rfl⟩
  obtain ⟨D, hD⟩ : ∃ D, Hid (D = X ++ U ++ V ++ Y) := ⟨_, rfl⟩
  rw [← hF.out]
  rw [← hD.out] at hn HS
  have hatU : Hid (∀ h, a ≤ h → h < m → ∃ y, U[h - a]? = some y ∧ D[h]? = some y) := by
    intro h g1 g2
    have h3 : h - a < U.length := by omega
    refine ⟨U[h - a]'h3, List.getElem?_eq_getElem h3, ?_⟩
    rw [hD.out, List.append_assoc, List.append_assoc, List.getElem?_append_right (by omega), List.getElem?_append_left (by omega), ← List.getElem?_eq_getElem h3, ha]
  have hatV : Hid (∀ h, m ≤ h → h < b → ∃ y, V[h - m]? = some y ∧ D[h]? = some y) := by
    intro h g1 g2
    have h3 : h - m < V.length := by omega
    refine ⟨V[h - m]'h3, List.getElem?_eq_getElem h3, ?_⟩
    rw [hD.out, List.getElem?_append_left (by simp; omega), List.getElem?_append_right (by simp; omega), ← List.getElem?_eq_getElem h3]
    congr 1
    simp; omega
  have ham : a + 2 ≤ m := by omega
  have hmb : m + 2 ≤ b := by omega
  have HN := Lib.hid hn; have HA := Lib.hid ha; have HM := Lib.hid hm; have HB := Lib.hid hb; have HC := Lib.hid hcmp; have HW := Lib.hid HS; have HWk := Lib.hid hw; have HSU := Lib.hid hsu; have HSV := Lib.hid hsv; have IH := Lib.hid ih; have HZ := Lib.hid hz
  clear hn ha hm hb hcmp HS hw hsu hsv ih hz hu hv h1 h2
  obtain ⟨e1, w1, he1⟩ : ∃ e : Nat, IntKind.i64.wrap ((m : Int) - a) = (e : Int) ∧ ((e : Int) == 1) = false := ⟨m - a, by rw [wrap_is (by omega)]; omega, by rw [beq_eq_false_iff_ne]; omega⟩
  obtain ⟨e2, w2, he2⟩ : ∃ e : Nat, IntKind.i64.wrap ((b : Int) - m) = (e : Int) ∧ ((e : Int) == 1) = false := ⟨b - m, by rw [wrap_is (by omega)]; omega, by rw [beq_eq_false_iff_ne]; omega⟩
  have he3 : ¬ (e1 : Int) = 1 := by simpa using he1
  have he4 : ¬ (e2 : Int) = 1 := by simpa using he2
  have w3 : IntKind.i64.wrap ((a : Int) + b) = (a : Int) + b := wrap_is (by omega)
  obtain ⟨mid, hmid, hm1, hm2⟩ : ∃ mid : Nat, ((a : Int) + b) / 2 = mid ∧ 2 * mid ≤ a + b ∧ a + b ≤ 2 * mid + 1 := ⟨(a + b) / 2, by omega, by omega, by omega⟩
  obtain ⟨N, w4, hN⟩ : ∃ N : Nat, IntKind.i64.wrap ((mid : Int) + m) = (N : Int) ∧ Hid (N = mid + m) := ⟨mid + m, by rw [wrap_is (by omega)]; omega, rfl⟩
  obtain ⟨s1, w5, hs1⟩ : ∃ s1 : Int, IntKind.i64.wrap ((N : Int) - b) = s1 ∧ Hid (s1 = (mid : Int) + m - b) := ⟨_, rfl, by show _ = _; have := hN.out; rw [wrap_is (by omega)]; omega⟩
  obtain ⟨p, w6, hp⟩ : ∃ p : Nat, IntKind.i64.wrap ((N : Int) - 1) = (p : Int) ∧ Hid (p + 1 = mid + m) := ⟨N - 1, by have := hN.out; rw [wrap_is (by omega)]; omega, by show _ = _; have := hN.out; omega⟩
  have mixed := L.mixed; have tU := L.tU; have aU := L.aU; have zU := L.zU; have vU := L.vU; have tI := L.tI; have aI := L.aI; have zI := L.zI; have vI := L.vI; have tB := L.tB; have aB := L.aB; have zB := L.zB; have vB := L.vB; have tS := L.tS; have aS := L.aS; have zS := L.zS; have vS := L.vS; have tC := L.tC; have aC := L.aC; have zC := L.zC; have vC := L.vC; have tW := L.tW; have aW := L.aW; have zW := L.zW; have vW := L.vW; have aE := L.aE; have zE := L.zE
  have erot : ∀ args w, (callFunc 105 args).run Pg w = .ok (.enter 105 args) w := enters_of L.rot (by kernel_rfl) rfl
  have esym : ∀ args w, (callFunc 93 args).run Pg w = .ok (.enter 93 args) w := enters_of L.sym (by kernel_rfl) rfl
  have HE := Lib.hid henc; have HL0 := Lib.hid L
  clear henc L
  go_enter HL0.out.sym, Try.ntmps93
  go_upto_if 140 with fail
  go_cut [20, 21] (fun v u W => ∃ s0 r0 : Nat, v = .int .i64 s0 ∧ u = .int .i64 r0 ∧ Hid ((mid < m ∧ s0 + b = mid + m ∧ r0 = mid) ∨ (m ≤ mid ∧ s0 = a ∧ r0 = m)) ∧ Hid (SwK enc k w0 blk off D W))
  case first => as_aux_lemma =>
    rcases Nat.lt_or_ge mid m with h | h
    · have hz : (mid : Int) < (m : Int) := by omega
      go_wp2
      go_meet
      have := hs1.out
      refine ⟨mid + m - b, mid, ?_, rfl, .inl ⟨h, by omega, rfl⟩, HW⟩
      congr 1
      omega
    · have hz : ¬ (mid : Int) < (m : Int) := by omega
      go_wp2
      go_meet
      exact ⟨a, m, rfl, rfl, .inr ⟨h, rfl, rfl⟩, HW⟩
  case rest =>
    clear HW w1 w2 w3 w4 w5 hs1 he1 he2 he3 he4 hmid
    obtain ⟨s0, r0, rfl, rfl, hsr, HW⟩ := hcut
    have hs2 : s0 ≤ r0 := by rcases hsr.out with h | h <;> omega
    have hs3 : a ≤ s0 := by rcases hsr.out with h | h <;> omega
    have hs4 : r0 ≤ m := by rcases hsr.out with h | h <;> omega
    go_upto_block 8 with (fail)
    clear w6
    go_cut [20, 21] (fun v u W => ∃ s : Nat, v = .int .i64 s ∧ u = .int .i64 s ∧ s0 ≤ s ∧ s ≤ r0 ∧ Hid (s0 < s → ∀ x y, D[s - 1]? = some x → D[p - (s - 1)]? = some y → lt y x = false) ∧ Hid (s < r0 → ∀ x y, D[s]? = some x → D[p - s]? = some y → lt y x = true) ∧ Hid (SwK enc k w0 blk off D W))
    case first => as_aux_lemma =>
      go_wp2_with fail
      go_loopw [20, 21] (fun v u wr => ∃ s r : Nat, v = .int .i64 s ∧ u = .int .i64 r ∧ s0 ≤ s ∧ s ≤ r ∧ r ≤ r0 ∧ Hid (s0 < s → ∀ x y, D[s - 1]? = some x → D[p - (s - 1)]? = some y → lt y x = false) ∧ Hid (r < r0 → ∀ x y, D[r]? = some x → D[p - r]? = some y → lt y x = true) ∧ Hid (SwK enc k w0 blk off D wr)) (fun v u _ => (intOf u).toNat - (intOf v).toNat)
      case atStart => exact ⟨s0, r0, rfl, rfl, Nat.le_refl _, hs2, Nat.le_refl _, fun h => absurd h (Nat.lt_irrefl _), fun h => absurd h (Nat.lt_irrefl _), HW⟩
      case round =>
        clear HW
        obtain ⟨s, r, rfl, rfl, hs0s, hsr1, hrr, HL, HG, HW⟩ := hrel
        by_cases hlt : s < r
        · have hlz : (s : Int) < (r : Int) := by omega
          obtain ⟨c, hc, hsc, hcr⟩ : ∃ c : Nat, ((s : Int) + r) / 2 = c ∧ s ≤ c ∧ c < r := ⟨(s + r) / 2, by omega, by omega, by omega⟩
          have w7 : IntKind.i64.wrap ((s : Int) + r) = (s : Int) + r := wrap_is (by omega)
          obtain ⟨d, w8, hd, hd1, hd2⟩ : ∃ d : Nat, IntKind.i64.wrap ((p : Int) - c) = (d : Int) ∧ Hid (p - c = d) ∧ m ≤ d ∧ d < b := by
            have := hp.out
            rcases hsr.out with h | h
            · exact ⟨p - c, by rw [wrap_is (by omega)]; omega, rfl, by omega, by omega⟩
            · exact ⟨p - c, by rw [wrap_is (by omega)]; omega, rfl, by omega, by omega⟩
          obtain ⟨x, hx, hxD⟩ := hatU.out c (by omega) (by omega)
          obtain ⟨y, hy, hyD⟩ := hatV.out d hd1 hd2
          have K : Hid (∀ W, SwK enc k w0 blk off D W → Sem.run Pg (loadCellsFrom ⟨blk, off + d * k, none⟩ 0 k #[]) W = .ok (enc y).toArray W ∧ Sem.run Pg (loadCellsFrom ⟨blk, off + c * k, none⟩ 0 k #[]) W = .ok (enc x).toArray W) := by
            intro W hW
            exact ⟨hW.load HE.out Pg hyD, hW.load HE.out Pg hxD⟩
          have HX := Lib.hid hxD; have HY := Lib.hid hyD
          clear hx hxD hy hyD
          have q1 : (c : Int) < (n : Int) := by omega
          have q2 : (d : Int) < (n : Int) := by omega
          cases hv : lt y x with
          | true =>
            obtain ⟨rr, hr, C⟩ := HC.out.at hv HN.out HW.out
            have l1 : ∀ m os, _ := fun m os => (K.out _ (HW.out.grown m os)).1
            have l2 : ∀ m os, _ := fun m os => (K.out _ (HW.out.grown m os)).2
            go_wp2_with fail
            go_quiet_grown (first | (go_at_fn g; refine Calls.grown_of (C _ _)))
            have S2 := Lib.hid (HW.out.grown nq osq)
            clear C l1 l2
            generalize grow (wr.drewN nq) osq = wq at S2 ⊢
            clear w7 w8 hc
            have HG2 : Hid (c < r0 → ∀ x y, D[c]? = some x → D[p - c]? = some y → lt y x = true) := by
              intro _ x' y' h1 h2
              rw [HX.out] at h1
              rw [hd.out, HY.out] at h2
              injection h1 with h1; injection h2 with h2
              subst h1 h2
              exact hv
            go_wp2
            exact ⟨⟨s, c, rfl, rfl, hs0s, hsc, by omega, HL, HG2, S2⟩, by simp [intOf]; omega⟩
          | false =>
            obtain ⟨rr, hr, C⟩ := HC.out.at hv HN.out HW.out
            have l1 : ∀ m os, _ := fun m os => (K.out _ (HW.out.grown m os)).1
            have l2 : ∀ m os, _ := fun m os => (K.out _ (HW.out.grown m os)).2
            go_wp2_with fail
            go_quiet_grown (first | (go_at_fn g; refine Calls.grown_of (C _ _)))
            have S2 := Lib.hid (HW.out.grown nq osq)
            clear C l1 l2
            generalize grow (wr.drewN nq) osq = wq at S2 ⊢
            clear w7 w8 hc
            have HL2 : Hid (s0 < c + 1 → ∀ x y, D[c + 1 - 1]? = some x → D[p - (c + 1 - 1)]? = some y → lt y x = false) := by
              intro _ x' y' h1 h2
              rw [Nat.add_sub_cancel] at h1 h2
              rw [HX.out] at h1
              rw [hd.out, HY.out] at h2
              injection h1 with h1; injection h2 with h2
              subst h1 h2
              exact hv
            go_wp2
            exact ⟨⟨c + 1, r, by go_num, rfl, by omega, by omega, hrr, HL2, HG, S2⟩, by simp [intOf]; omega⟩
        · have hlz : ¬ (s : Int) < (r : Int) := by omega
          obtain rfl : s = r := by omega
          go_wp2
          go_meet
          exact ⟨s, rfl, rfl, hs0s, hrr, HL, HG, HW⟩
    case rest =>
      clear HW
      obtain ⟨s, rfl, rfl, hs0s, hrr, HL, HG, HW⟩ := hcut
      obtain ⟨e, w7, hee, he5, he6⟩ : ∃ e : Nat, IntKind.i64.wrap ((N : Int) - s) = (e : Int) ∧ Hid (e + s = mid + m) ∧ m ≤ e ∧ e ≤ b := by
        have := hN.out
        rcases hsr.out with h | h
        · exact ⟨N - s, by rw [wrap_is (by omega)]; omega, by show _ = _; omega, by omega, by omega⟩
        · exact ⟨N - s, by rw [wrap_is (by omega)]; omega, by show _ = _; omega, by omega, by omega⟩
      obtain ⟨U1, U2, V1, V2, hU, hV, lU1, lU2, lV1, lV2, hM⟩ : ∃ U1 U2 V1 V2, Hid (U = U1 ++ U2) ∧ Hid (V = V1 ++ V2) ∧ Hid (a + U1.length = s) ∧ Hid (s + U2.length = m) ∧ Hid (m + V1.length = e) ∧ Hid (e + V2.length = b) ∧ Hid (merge lt U V = merge lt U1 V1 ++ merge lt U2 V2) := by
        have lu := HM.out; have lv := HB.out; have he := hee.out; have hpp := hp.out
        refine ⟨U.take (s - a), U.drop (s - a), V.take (e - m), V.drop (e - m), by show _ = _; rw [List.take_append_drop], by show _ = _; rw [List.take_append_drop], by show _ = _; rw [List.length_take]; omega, by show _ = _; rw [List.length_drop]; omega, by show _ = _; rw [List.length_take]; omega, by show _ = _; rw [List.length_drop]; omega, ?_⟩
        refine cut_merge HWk.out HSU.out HSV.out ?_ ?_ (by omega) (by omega)
        · intro c1 c2 c3 x y hx hy
          obtain ⟨x', k1, k2⟩ := hatU.out (s - 1) (by omega) (by omega)
          obtain ⟨y', k3, k4⟩ := hatV.out e (by omega) (by omega)
          rw [show s - a - 1 = s - 1 - a by omega, k1] at hx
          rw [k3] at hy
          injection hx with hx; injection hy with hy
          subst hx hy
          exact HL.out (by rcases hsr.out with h | h <;> omega) _ _ k2 (by rw [show p - (s - 1) = e by omega]; exact k4)
        · intro c1 c2 c3 x y hx hy
          obtain ⟨x', k1, k2⟩ := hatU.out s (by omega) (by omega)
          obtain ⟨y', k3, k4⟩ := hatV.out (e - 1) (by omega) (by omega)
          rw [k1] at hx
          rw [show e - m - 1 = e - 1 - m by omega, k3] at hy
          injection hx with hx; injection hy with hy
          subst hx hy
          exact HG.out (by rcases hsr.out with h | h <;> omega) _ _ k2 (by rw [show p - s = e - 1 by omega]; exact k4)
      clear HL HG hatU hatV
      obtain ⟨D1, hD1⟩ : ∃ D1, Hid (D1 = X ++ U1 ++ V1 ++ U2 ++ V2 ++ Y) := ⟨_, rfl⟩
      have lD1 : Hid (D1.length = n) := by
        show _ = _
        have := HN.out
        rw [hD.out, hU.out, hV.out] at this
        rw [hD1.out]
        simp at this ⊢
        omega
      have has : a ≤ s := by have := lU1.out; omega
      have hsm : s ≤ m := by have := lU2.out; omega
      go_upto_region 39 with fail
      clear w7
      go_cut [24, 185] (fun u v W => ∃ bb : Bool, u = .int .i64 e ∧ v = .bool bb ∧ Hid (bb = decide (s < m ∧ m < e)) ∧ Hid (W = wc))
      case first => as_aux_lemma =>
        by_cases g1 : s < m
        · have z1 : (s : Int) < (m : Int) := by omega
          by_cases g2 : m < e
          · have z2 : (m : Int) < (e : Int) := by omega
            go_wp2
            go_meet
            exact ⟨true, rfl, rfl, by show _ = _; simp [g1, g2], Lib.hid rfl⟩
          · have z2 : ¬ (m : Int) < (e : Int) := by omega
            go_wp2
            go_meet
            exact ⟨false, rfl, rfl, by show _ = _; simp [g2], Lib.hid rfl⟩
        · have z1 : ¬ (s : Int) < (m : Int) := by omega
          go_wp2
          go_meet
          exact ⟨false, rfl, rfl, by show _ = _; simp [g1], Lib.hid rfl⟩
      case rest =>
        obtain ⟨bb, rfl, rfl, hbb, hwc⟩ := hcut
        have hwc2 := hwc.out
        subst hwc2
        clear hwc
        go_upto_if 185 with fail
        go_cut [24] (fun v W => v = .int .i64 e ∧ Hid (SwK enc k w0 blk off D1 W))
        case first => as_aux_lemma =>
          cases bb with
          | true =>
            have gg : s < m ∧ m < e := by have := hbb.out; simpa using this.symm
            have C := Lib.hid (rotateK_any HL0.out HE.out g cb blk off cap s m e n (X ++ U1) U2 V1 (V2 ++ Y) w0 wc
              (by have := HN.out; rw [hD.out, hU.out, hV.out] at this; simpa using this) (by rw [List.length_append]; have := HA.out; have := lU1.out; omega)
              (by rw [List.length_append]; have := HA.out; have := lU1.out; have := lU2.out; omega) lV1.out (by have := lU2.out; omega) (by have := lV1.out; omega) hmax
              (by have := HW.out; rw [hD.out, hU.out, hV.out] at this; simpa using this))
            go_wp2_with (go_at_call 105; refine C.out.mono ?_; rintro e w' ⟨rfl, HS⟩)
            go_meet
            exact ⟨rfl, by show SwK _ _ _ _ _ _ _; rw [hD1.out]; simpa using HS⟩
          | false =>
            have gg : ¬ (s < m ∧ m < e) := by have := hbb.out; simpa using this.symm
            have HW1 : Hid (SwK enc k w0 blk off D1 wc) := by
              have := HW.out
              rw [hD.out, hU.out, hV.out] at this
              show SwK _ _ _ _ _ _ _
              rw [hD1.out]
              rcases (show U2 = [] ∨ V1 = [] by
                rcases Nat.lt_or_ge s m with g1 | g1
                · exact .inr (List.eq_nil_of_length_eq_zero (by have := lV1.out; omega))
                · exact .inl (List.eq_nil_of_length_eq_zero (by have := lU2.out; omega))) with h3 | h3
              all_goals
                rw [h3] at this ⊢
                simpa using this
            go_wp2
            go_meet
            exact ⟨rfl, HW1⟩
        case rest =>
          clear HW
          obtain ⟨rfl, HW⟩ := hcut
          obtain ⟨D2, hD2⟩ : ∃ D2, Hid (D2 = X ++ merge lt U1 V1 ++ U2 ++ V2 ++ Y) := ⟨_, rfl⟩
          have lD2 : Hid (D2.length = n) := by
            show _ = _
            have := lD1.out
            rw [hD1.out] at this
            rw [hD2.out]
            simp [merge_len] at this ⊢
            omega
          have sU1 := Lib.hid (Sorted.split (by have := HSU.out; rw [hU.out] at this; exact this : Sorted lt (U1 ++ U2))).1
          have sU2 := Lib.hid (Sorted.split (by have := HSU.out; rw [hU.out] at this; exact this : Sorted lt (U1 ++ U2))).2.1
          have sV1 := Lib.hid (Sorted.split (by have := HSV.out; rw [hV.out] at this; exact this : Sorted lt (V1 ++ V2))).1
          have sV2 := Lib.hid (Sorted.split (by have := HSV.out; rw [hV.out] at this; exact this : Sorted lt (V1 ++ V2))).2.1
          have hz2 : b - a ≤ z + 1 := by have := HZ.out; have := HM.out; have := HB.out; omega
          go_upto_region 41 with fail
          go_cut [24, 199] (fun u v W => ∃ bb : Bool, u = .int .i64 e ∧ v = .bool bb ∧ Hid (bb = decide (a < s ∧ s < mid)) ∧ Hid (W = wc))
          case first => as_aux_lemma =>
            by_cases g1 : a < s
            · have z1 : (a : Int) < (s : Int) := by omega
              by_cases g2 : s < mid
              · have z2 : (s : Int) < (mid : Int) := by omega
                go_wp2
                go_meet
                exact ⟨true, rfl, rfl, by show _ = _; simp [g1, g2], Lib.hid rfl⟩
              · have z2 : ¬ (s : Int) < (mid : Int) := by omega
                go_wp2
                go_meet
                exact ⟨false, rfl, rfl, by show _ = _; simp [g2], Lib.hid rfl⟩
            · have z1 : ¬ (a : Int) < (s : Int) := by omega
              go_wp2
              go_meet
              exact ⟨false, rfl, rfl, by show _ = _; simp [g1], Lib.hid rfl⟩
          case rest =>
            obtain ⟨bb, rfl, rfl, hbb, hwc⟩ := hcut
            have hwc2 := hwc.out
            subst hwc2
            clear hwc
            go_upto_if 199 with fail
            go_cut [24] (fun v W => v = .int .i64 e ∧ Hid (SwK enc k w0 blk off D2 W))
            case first => as_aux_lemma =>
              cases bb with
              | true =>
                have gg : a < s ∧ s < mid := by have := hbb.out; simpa using this.symm
                have C := Lib.hid (IH.out a s mid X U1 V1 (U2 ++ V2 ++ Y) wc (by have := lU1.out; have := lV1.out; have := hee.out; omega) (by have := lU1.out; omega) (by have := lV1.out; have := hee.out; omega)
                  (by have := lD1.out; rw [hD1.out] at this; simpa using this) HA.out lU1.out (by have := lV1.out; have := hee.out; omega) sU1.out sV1.out
                  (by have := HW.out; rw [hD1.out] at this; simpa using this))
                go_wp2_with (go_at_call 93; refine C.out.mono ?_; rintro e w' ⟨rfl, HS⟩)
                go_meet
                exact ⟨rfl, by show SwK _ _ _ _ _ _ _; rw [hD2.out]; simpa using HS⟩
              | false =>
                have gg : ¬ (a < s ∧ s < mid) := by have := hbb.out; simpa using this.symm
                have HW1 : Hid (SwK enc k w0 blk off D2 wc) := by
                  have := HW.out
                  rw [hD1.out] at this
                  show SwK _ _ _ _ _ _ _
                  rw [hD2.out, merge_none (by have := lU1.out; have := lV1.out; have := hee.out; omega)]
                  simpa using this
                go_wp2
                go_meet
                exact ⟨rfl, HW1⟩
            case rest =>
              clear HW
              obtain ⟨rfl, HW⟩ := hcut
              have HF2 : Hid (F = X ++ merge lt U1 V1 ++ merge lt U2 V2 ++ Y) := by show _ = _; rw [hF.out, hM.out]; simp
              rcases Nat.lt_or_ge mid e with g1 | g1
              · have z1 : (mid : Int) < (e : Int) := by omega
                rcases Nat.lt_or_ge e b with g2 | g2
                · have z2 : (e : Int) < (b : Int) := by omega
                  have C := Lib.hid (IH.out mid e b (X ++ merge lt U1 V1) U2 V2 Y wc (by have := lU2.out; have := lV2.out; have := hee.out; omega) (by have := lU2.out; have := hee.out; omega) (by have := lV2.out; omega)
                    (by have := lD2.out; rw [hD2.out] at this; simpa using this) (by rw [List.length_append, merge_len]; have := HA.out; have := lU1.out; have := lV1.out; have := hee.out; omega) (by have := lU2.out; have := hee.out; omega) lV2.out sU2.out sV2.out
                    (by have := HW.out; rw [hD2.out] at this; simpa using this))
                  go_wp2_with (go_at_call 93; refine C.out.mono ?_; rintro e w' ⟨rfl, HS⟩)
                  go_end0
                  exact ⟨rfl, by rw [HF2.out]; simpa using HS⟩
                · have z2 : ¬ (e : Int) < (b : Int) := by omega
                  have HW1 : Hid (SwK enc k w0 blk off F wc) := by
                    have := HW.out
                    rw [hD2.out] at this
                    show SwK _ _ _ _ _ _ _
                    rw [HF2.out, merge_none (U := U2) (by have := lV2.out; omega)]
                    simpa using this
                  go_wp2
                  go_end0
                  exact ⟨rfl, HW1.out⟩
              · have z1 : ¬ (mid : Int) < (e : Int) := by omega
                have HW1 : Hid (SwK enc k w0 blk off F wc) := by
                  have := HW.out
                  rw [hD2.out] at this
                  show SwK _ _ _ _ _ _ _
                  rw [HF2.out, merge_none (U := U2) (by have := lU2.out; have := hee.out; omega)]
                  simpa using this
                go_wp2
                go_end0
                exact ⟨rfl, HW1.out⟩
end Go.Proofs.Ytieaobeidlhefaa
