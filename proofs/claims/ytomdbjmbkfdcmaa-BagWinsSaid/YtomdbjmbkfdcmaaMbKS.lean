/- Several texts laid together: KSym1, KSym2, KSym, KStb. -/
import Derived.Test.YtomdbjmbkfdcmaaMbK
import Derived.Shelf.SlSortCmp.QuietGrown
import Derived.Shelf.RegionOpenPlain
import Derived.BigRegion
import Derived.IntWalk
import Derived.Shelf.Abstract
import Derived.Deep.DeepCutAuto
import Derived.Deep.CutBlock
namespace Go.Proofs.Ytomdbjmbkfdcmaa
set_option maxRecDepth 100000
open Go.RowKit Go.Sort Srt
variable {α : Type} {Pg : Program} {enc : α → List Value} {k : Nat}

set_option maxHeartbeats 6400000 in
theorem symMergeK_left {lt : α → α → Bool} (hw : Weak lt) (L : LayK Pg k) (henc : EncK enc k) (g : Nat) (cb : Array Value) (blk off cap a m b n : Nat) (X V Y : List α) (x : α) (w0 w : World)
    (eg : ∀ args w, (callFunc g args).run Pg w = .ok (.enter g args) w) (hcmp : CmpK Pg g cb enc k lt blk off n w0)
    (hn : (X ++ [x] ++ V ++ Y).length = n) (ha : X.length = a) (hm : m = a + 1) (hb : m + V.length = b) (hsv : Sorted lt V) (hmax : n < 1000000000000000000)
    (HS : SwK enc k w0 blk off (X ++ [x] ++ V ++ Y) w) :
    Calls Pg 102 #[.slice (some ⟨blk, off, none⟩) n cap, .int .i64 a, .int .i64 m, .int .i64 b, .func (.func g) #[] cb] w fun e w' => e = .returned (.tuple #[]) ∧ SwK enc k w0 blk off (X ++ merge lt [x] V ++ Y) w' := by
  have hbn : b ≤ n := by simp at hn; omega
  have ham : a < m := by omega
  have hmb : m ≤ b := by omega
  obtain ⟨F, hF⟩ : ∃ F, Hid (F = X ++ merge lt [x] V ++ Y) := ⟨_, rfl⟩
  obtain ⟨D, hD⟩ : ∃ D, Hid (D = X ++ [x] ++ V ++ Y) := ⟨_, rfl⟩
  rw [← hF.out]
  rw [← hD.out] at hn HS
  have hax : D[a]? = some x := by rw [hD.out, show X ++ [x] ++ V ++ Y = X ++ x :: (V ++ Y) by simp]; exact at_mid _ _ _ ha
  have hat : Hid (∀ h, m ≤ h → h < b → ∃ y, V[h - m]? = some y ∧ D[h]? = some y) := by
    intro h h1 h2
    have h3 : h - m < V.length := by omega
    refine ⟨V[h - m]'h3, List.getElem?_eq_getElem h3, ?_⟩
    rw [hD.out, List.getElem?_append_left (by simp; omega), List.getElem?_append_right (by simp; omega), ← List.getElem?_eq_getElem h3]
    congr 1
    simp; omega
  have HN := Lib.hid hn; have HA := Lib.hid ha; have HB := Lib.hid hb; have HC := Lib.hid hcmp; have HW := Lib.hid HS; have HWk := Lib.hid hw; have HSV := Lib.hid hsv; have HAX := Lib.hid hax; have HM := Lib.hid hm
  have w1 : IntKind.i64.wrap ((m : Int) - a) = 1 := by rw [wrap_is (by omega)]; omega
  clear hn ha hb hcmp HS hw hsv hax hm
  have mixed := L.mixed; have tU := L.tU; have aU := L.aU; have zU := L.zU; have vU := L.vU; have tI := L.tI; have aI := L.aI; have zI := L.zI; have vI := L.vI; have tB := L.tB; have aB := L.aB; have zB := L.zB; have vB := L.vB; have tS := L.tS; have aS := L.aS; have zS := L.zS; have vS := L.vS; have tC := L.tC; have aC := L.aC; have zC := L.zC; have vC := L.vC; have tW := L.tW; have aW := L.aW; have zW := L.zW; have vW := L.vW; have aE := L.aE; have zE := L.zE
  have HE := Lib.hid henc; have HL0 := Lib.hid L
  clear henc L
  go_enter HL0.out.sym, Try.ntmps102
  go_wp2_with fail
  go_loopw [10, 11] (fun v u wr => ∃ i j : Nat, v = .int .i64 i ∧ u = .int .i64 j ∧ m ≤ i ∧ i ≤ j ∧ j ≤ b ∧ Hid (∀ v ∈ V.take (i - m), lt v x = true) ∧ Hid (∀ v ∈ V.drop (j - m), lt v x = false) ∧ Hid (SwK enc k w0 blk off D wr)) (fun v u _ => (intOf u).toNat - (intOf v).toNat)
  case atStart => exact ⟨m, b, rfl, rfl, Nat.le_refl _, hmb, Nat.le_refl _, by intro v hv; simp at hv, by intro v hv; have := HB.out; rw [List.drop_of_length_le (by omega)] at hv; simp at hv, HW⟩
  case round =>
    clear HW
    obtain ⟨i, j, rfl, rfl, hmi, hij, hjb, HL, HG, HW⟩ := hrel
    by_cases hlt : i < j
    · have hlz : (i : Int) < (j : Int) := by omega
      obtain ⟨h, hh, hih, hhj⟩ : ∃ h : Nat, ((i : Int) + j) / 2 = h ∧ i ≤ h ∧ h < j := ⟨(i + j) / 2, by omega, by omega, by omega⟩
      have w2 : IntKind.i64.wrap ((i : Int) + j) = (i : Int) + j := wrap_is (by omega)
      obtain ⟨y, hy, hyD⟩ := hat.out h (by omega) (by omega)
      have K : Hid (∀ W, SwK enc k w0 blk off D W → Sem.run Pg (loadCellsFrom ⟨blk, off + h * k, none⟩ 0 k #[]) W = .ok (enc y).toArray W ∧ Sem.run Pg (loadCellsFrom ⟨blk, off + a * k, none⟩ 0 k #[]) W = .ok (enc x).toArray W) := by
        intro W hW
        exact ⟨hW.load HE.out Pg hyD, hW.load HE.out Pg HAX.out⟩
      have HY := Lib.hid hy
      clear hy hyD
      have q1 : (h : Int) < (n : Int) := by omega
      have q2 : (a : Int) < (n : Int) := by omega
      cases hv : lt y x with
      | true =>
        obtain ⟨rr, hr, C⟩ := HC.out.at hv HN.out HW.out
        have l1 : ∀ m os, _ := fun m os => (K.out _ (HW.out.grown m os)).1
        have l2 : ∀ m os, _ := fun m os => (K.out _ (HW.out.grown m os)).2
        go_wp2_with fail
        go_quiet_grown (first | (go_at_fn g; refine Calls.grown_of (C _ _)))
        have S2 := Lib.hid (HW.out.grown nq osq)
        clear C l1 l2
        generalize grow (wr.drewN nq) osq = wq at S2 ⊢
        have HL2 : Hid (∀ v ∈ V.take (h + 1 - m), lt v x = true) := by
          have := all_below HWk.out HSV.out HY.out hv
          rw [show h - m + 1 = h + 1 - m by omega] at this
          exact this
        go_wp2
        exact ⟨⟨h + 1, j, by go_num, rfl, by omega, by omega, hjb, HL2, HG, S2⟩, by simp [intOf]; omega⟩
      | false =>
        obtain ⟨rr, hr, C⟩ := HC.out.at hv HN.out HW.out
        have l1 : ∀ m os, _ := fun m os => (K.out _ (HW.out.grown m os)).1
        have l2 : ∀ m os, _ := fun m os => (K.out _ (HW.out.grown m os)).2
        go_wp2_with fail
        go_quiet_grown (first | (go_at_fn g; refine Calls.grown_of (C _ _)))
        have S2 := Lib.hid (HW.out.grown nq osq)
        clear C l1 l2
        generalize grow (wr.drewN nq) osq = wq at S2 ⊢
        have HG2 := Lib.hid (none_behind HWk.out HSV.out HY.out hv)
        go_wp2
        exact ⟨⟨i, h, rfl, rfl, hmi, hih, by omega, HL, HG2, S2⟩, by simp [intOf]; omega⟩
    · have hlz : ¬ (i : Int) < (j : Int) := by omega
      obtain rfl : i = j := by omega
      have w3 : IntKind.i64.wrap ((i : Int) - 1) = ((i - 1 : Nat) : Int) := by rw [wrap_is (by omega)]; omega
      have H0 : Hid (D = X ++ V.take (a - a) ++ x :: (V.drop (a - a) ++ Y)) := by show _ = _; rw [hD.out]; simp
      have HF : Hid (X ++ V.take (i - 1 - a) ++ x :: (V.drop (i - 1 - a) ++ Y) = F) := by
        show _ = _
        have h1 := HM.out
        rw [hF.out, show i - 1 - a = i - m by omega]
        have := one_merge (V.take (i - m)) (V.drop (i - m)) x HL.out HG.out
        rw [List.take_append_drop] at this
        rw [this]
        simp
      clear HL HG
      go_wp2_with fail
      go_loopw [13] (fun v wr => ∃ (kk : Nat) (D2 : List α), v = .int .i64 kk ∧ a ≤ kk ∧ kk ≤ i - 1 ∧ Hid (D2 = X ++ V.take (kk - a) ++ x :: (V.drop (kk - a) ++ Y)) ∧ Hid (SwK enc k w0 blk off D2 wr)) (fun v _ => i - 1 - (intOf v).toNat)
      case atStart => exact ⟨a, D, rfl, Nat.le_refl _, by omega, H0, HW⟩
      case round =>
        clear HW H0
        obtain ⟨kk, D2, rfl, hak, hki, HD2, HW⟩ := hrel
        by_cases hlt2 : kk < i - 1
        · have hlz2 : (kk : Int) < ((i - 1 : Nat) : Int) := by omega
          obtain ⟨y, P, Q, hP, hp, hD3, hDl⟩ : ∃ y P Q, Hid (D2 = P ++ x :: y :: Q) ∧ Hid (P.length = kk) ∧ Hid (P ++ y :: x :: Q = X ++ V.take (kk + 1 - a) ++ x :: (V.drop (kk + 1 - a) ++ Y)) ∧ Hid (D2.length = n) := by
            have h1 := HA.out; have h2 := HB.out; have h3 := HM.out
            have hkk : kk - a < V.length := by omega
            refine ⟨V[kk - a]'hkk, X ++ V.take (kk - a), V.drop (kk - a + 1) ++ Y, ?_, ?_, ?_, ?_⟩
            · show _ = _
              rw [HD2.out, List.drop_eq_getElem_cons hkk, List.cons_append]
            · show _ = _
              rw [List.length_append, List.length_take]; omega
            · show _ = _
              rw [show kk + 1 - a = kk - a + 1 by omega, List.take_succ_eq_append_getElem hkk]
              simp only [List.append_assoc, List.cons_append, List.nil_append]
            · show _ = _
              rw [HD2.out, ← HN.out, hD.out]
              simp only [List.length_append, List.length_take, List.length_drop, List.length_cons, List.length_nil]; omega
          have l1 := HW.out.drew.load HE.out Pg (j := kk) (x := x) (by rw [hP.out]; exact at_mid _ _ _ hp.out)
          have l2 := HW.out.drew.load HE.out Pg (j := kk + 1) (x := y) (by rw [hP.out, show P ++ x :: y :: Q = (P ++ [x]) ++ y :: Q by simp]; exact at_mid _ _ _ (by have := hp.out; simp; omega))
          have lt1 : kk < D2.length := by rw [hDl.out]; omega
          have lt2 : kk + 1 < D2.length := by rw [hDl.out]; omega
          have s1 := HW.out.drew.store HE.out Pg lt1 y
          have s2 := (HW.out.drew.set HE.out lt1 y).store HE.out Pg (j := (kk + 1)) (by rw [List.length_set]; exact lt2) x
          have n1 : (enc x).length = k := HE.out.len _
          have n2 : (enc y).length = k := HE.out.len _
          have S3 : Hid (SwK enc k w0 blk off ((D2.set kk y).set (kk + 1) x) _) := HW.out.swap HE.out lt1 lt2
          have HD4 : Hid ((D2.set kk y).set (kk + 1) x = X ++ V.take (kk + 1 - a) ++ x :: (V.drop (kk + 1 - a) ++ Y)) := by
            show _ = _
            rw [← hD3.out, hP.out, ← hp.out, swap_adj']
          clear lt1 lt2
          have q3 : (kk : Int) < (n : Int) := by omega
          have q4 : (kk : Int) + 1 < (n : Int) := by omega
          have q5 : IntKind.i64.wrap ((kk : Int) + 1) = (kk : Int) + 1 := wrap_is (by omega)
          have q6 : (0 : Int) ≤ (kk : Int) + 1 := by omega
          have q7 : ((kk : Int) + 1).toNat = kk + 1 := by omega
          obtain ⟨cx, hcx⟩ : ∃ c, c = enc x := ⟨_, rfl⟩
          obtain ⟨cy, hcy⟩ : ∃ c, c = enc y := ⟨_, rfl⟩
          rw [← hcx] at l1 s2 n1 S3
          rw [← hcy] at l2 s1 s2 n2 S3
          clear hcx hcy
          go_wp2_with fail
          go_big_region_o
          all_goals go_wp2
          exact ⟨⟨kk + 1, _, by go_num, by omega, by omega, HD4, S3⟩, by simp [intOf]; omega⟩
        · have hlz2 : ¬ (kk : Int) < ((i - 1 : Nat) : Int) := by omega
          obtain rfl : kk = i - 1 := by omega
          go_wp2
          refine bodyPost_ret (results_none rfl _ _ _) rfl ?_
          exact ⟨rfl, by rw [← HF.out, ← HD2.out]; exact HW.out⟩
end Go.Proofs.Ytomdbjmbkfdcmaa

namespace Go.Proofs.Ytomdbjmbkfdcmaa
set_option maxRecDepth 100000
open Go.RowKit Go.Sort Srt
variable {α : Type} {Pg : Program} {enc : α → List Value} {k : Nat}

set_option maxHeartbeats 6400000 in
theorem symMergeK_right {lt : α → α → Bool} (hw : Weak lt) (L : LayK Pg k) (henc : EncK enc k) (g : Nat) (cb : Array Value) (blk off cap a m b n : Nat) (X U Y : List α) (x : α) (w0 w : World)
    (eg : ∀ args w, (callFunc g args).run Pg w = .ok (.enter g args) w) (hcmp : CmpK Pg g cb enc k lt blk off n w0)
    (hn : (X ++ U ++ [x] ++ Y).length = n) (ha : X.length = a) (hm : a + U.length = m) (hb : b = m + 1) (hu : 2 ≤ U.length) (hsu : Sorted lt U) (hmax : n < 1000000000000000000)
    (HS : SwK enc k w0 blk off (X ++ U ++ [x] ++ Y) w) :
    Calls Pg 102 #[.slice (some ⟨blk, off, none⟩) n cap, .int .i64 a, .int .i64 m, .int .i64 b, .func (.func g) #[] cb] w fun e w' => e = .returned (.tuple #[]) ∧ SwK enc k w0 blk off (X ++ merge lt U [x] ++ Y) w' := by
  have hbn : b ≤ n := by simp at hn; omega
  have ham : a + 2 ≤ m := by omega
  have hmb : m < b := by omega
  obtain ⟨F, hF⟩ : ∃ F, Hid (F = X ++ merge lt U [x] ++ Y) := ⟨_, rfl⟩
  obtain ⟨D, hD⟩ : ∃ D, Hid (D = X ++ U ++ [x] ++ Y) := ⟨_, rfl⟩
  rw [← hF.out]
  rw [← hD.out] at hn HS
  have hax : D[m]? = some x := by rw [hD.out, show X ++ U ++ [x] ++ Y = (X ++ U) ++ x :: Y by simp]; exact at_mid _ _ _ (by rw [List.length_append]; omega)
  have hat : Hid (∀ h, a ≤ h → h < m → ∃ y, U[h - a]? = some y ∧ D[h]? = some y) := by
    intro h h1 h2
    have h3 : h - a < U.length := by omega
    refine ⟨U[h - a]'h3, List.getElem?_eq_getElem h3, ?_⟩
    rw [hD.out, List.append_assoc, List.append_assoc, List.getElem?_append_right (by omega), List.getElem?_append_left (by omega), ← List.getElem?_eq_getElem h3, ha]
  have HN := Lib.hid hn; have HA := Lib.hid ha; have HB := Lib.hid hb; have HC := Lib.hid hcmp; have HW := Lib.hid HS; have HWk := Lib.hid hw; have HSU := Lib.hid hsu; have HAX := Lib.hid hax; have HM := Lib.hid hm
  obtain ⟨e, w1, he⟩ : ∃ e : Nat, IntKind.i64.wrap ((m : Int) - a) = (e : Int) ∧ ¬ (e : Int) = 1 := ⟨m - a, by rw [wrap_is (by omega)]; omega, by omega⟩
  have he2 : ((e : Int) == 1) = false := by rw [beq_eq_false_iff_ne]; exact he
  have w2 : IntKind.i64.wrap ((b : Int) - m) = 1 := by rw [wrap_is (by omega)]; omega
  clear hn ha hb hcmp HS hw hsu hax hm hu
  have mixed := L.mixed; have tU := L.tU; have aU := L.aU; have zU := L.zU; have vU := L.vU; have tI := L.tI; have aI := L.aI; have zI := L.zI; have vI := L.vI; have tB := L.tB; have aB := L.aB; have zB := L.zB; have vB := L.vB; have tS := L.tS; have aS := L.aS; have zS := L.zS; have vS := L.vS; have tC := L.tC; have aC := L.aC; have zC := L.zC; have vC := L.vC; have tW := L.tW; have aW := L.aW; have zW := L.zW; have vW := L.vW; have aE := L.aE; have zE := L.zE
  have HE := Lib.hid henc; have HL0 := Lib.hid L
  clear henc L
  go_enter HL0.out.sym, Try.ntmps102
  go_wp2_with fail
  go_loopw [14, 15] (fun v u wr => ∃ i j : Nat, v = .int .i64 i ∧ u = .int .i64 j ∧ a ≤ i ∧ i ≤ j ∧ j ≤ m ∧ Hid (∀ v ∈ U.take (i - a), lt x v = false) ∧ Hid (∀ v ∈ U.drop (j - a), lt x v = true) ∧ Hid (SwK enc k w0 blk off D wr)) (fun v u _ => (intOf u).toNat - (intOf v).toNat)
  case atStart => exact ⟨a, m, rfl, rfl, Nat.le_refl _, by omega, Nat.le_refl _, by intro v hv; simp at hv, by intro v hv; have := HM.out; rw [List.drop_of_length_le (by omega)] at hv; simp at hv, HW⟩
  case round =>
    clear HW
    obtain ⟨i, j, rfl, rfl, hai, hij, hjm, HL, HG, HW⟩ := hrel
    by_cases hlt : i < j
    · have hlz : (i : Int) < (j : Int) := by omega
      obtain ⟨h, hh, hih, hhj⟩ : ∃ h : Nat, ((i : Int) + j) / 2 = h ∧ i ≤ h ∧ h < j := ⟨(i + j) / 2, by omega, by omega, by omega⟩
      have w3 : IntKind.i64.wrap ((i : Int) + j) = (i : Int) + j := wrap_is (by omega)
      obtain ⟨y, hy, hyD⟩ := hat.out h (by omega) (by omega)
      have K : Hid (∀ W, SwK enc k w0 blk off D W → Sem.run Pg (loadCellsFrom ⟨blk, off + m * k, none⟩ 0 k #[]) W = .ok (enc x).toArray W ∧ Sem.run Pg (loadCellsFrom ⟨blk, off + h * k, none⟩ 0 k #[]) W = .ok (enc y).toArray W) := by
        intro W hW
        exact ⟨hW.load HE.out Pg HAX.out, hW.load HE.out Pg hyD⟩
      have HY := Lib.hid hy
      clear hy hyD
      have q1 : (h : Int) < (n : Int) := by omega
      have q2 : (m : Int) < (n : Int) := by omega
      cases hv : lt x y with
      | true =>
        obtain ⟨rr, hr, C⟩ := HC.out.at hv HN.out HW.out
        have l1 : ∀ m os, _ := fun m os => (K.out _ (HW.out.grown m os)).1
        have l2 : ∀ m os, _ := fun m os => (K.out _ (HW.out.grown m os)).2
        go_wp2_with fail
        go_quiet_grown (first | (go_at_fn g; refine Calls.grown_of (C _ _)))
        have S2 := Lib.hid (HW.out.grown nq osq)
        clear C l1 l2
        generalize grow (wr.drewN nq) osq = wq at S2 ⊢
        have HG2 := Lib.hid (all_behind HWk.out HSU.out HY.out hv)
        go_wp2
        exact ⟨⟨i, h, rfl, rfl, hai, hih, by omega, HL, HG2, S2⟩, by simp [intOf]; omega⟩
      | false =>
        obtain ⟨rr, hr, C⟩ := HC.out.at hv HN.out HW.out
        have l1 : ∀ m os, _ := fun m os => (K.out _ (HW.out.grown m os)).1
        have l2 : ∀ m os, _ := fun m os => (K.out _ (HW.out.grown m os)).2
        go_wp2_with fail
        go_quiet_grown (first | (go_at_fn g; refine Calls.grown_of (C _ _)))
        have S2 := Lib.hid (HW.out.grown nq osq)
        clear C l1 l2
        generalize grow (wr.drewN nq) osq = wq at S2 ⊢
        have HL2 : Hid (∀ v ∈ U.take (h + 1 - a), lt x v = false) := by
          have := none_upto HWk.out HSU.out HY.out hv
          rw [show h - a + 1 = h + 1 - a by omega] at this
          exact this
        go_wp2
        exact ⟨⟨h + 1, j, by go_num, rfl, by omega, by omega, hjm, HL2, HG, S2⟩, by simp [intOf]; omega⟩
    · have hlz : ¬ (i : Int) < (j : Int) := by omega
      obtain rfl : i = j := by omega
      have H0 : Hid (D = X ++ U.take (m - a) ++ x :: (U.drop (m - a) ++ Y)) := by
        show _ = _
        have h1 := HM.out
        rw [hD.out, List.take_of_length_le (by omega), List.drop_of_length_le (by omega)]; simp
      have HF : Hid (X ++ U.take (i - a) ++ x :: (U.drop (i - a) ++ Y) = F) := by
        show _ = _
        have := merge_one (U.take (i - a)) (U.drop (i - a)) x HL.out HG.out
        rw [List.take_append_drop] at this
        rw [hF.out, this]
        simp
      clear HL HG
      go_wp2_with fail
      go_loopw [17] (fun v wr => ∃ (kk : Nat) (D2 : List α), v = .int .i64 kk ∧ i ≤ kk ∧ kk ≤ m ∧ Hid (D2 = X ++ U.take (kk - a) ++ x :: (U.drop (kk - a) ++ Y)) ∧ Hid (SwK enc k w0 blk off D2 wr)) (fun v _ => (intOf v).toNat)
      case atStart => exact ⟨m, D, rfl, by omega, Nat.le_refl _, H0, HW⟩
      case round =>
        clear HW H0
        obtain ⟨kk, D2, rfl, hik, hkm, HD2, HW⟩ := hrel
        by_cases hlt2 : i < kk
        · have hlz2 : (i : Int) < (kk : Int) := by omega
          obtain ⟨k1, hk1⟩ : ∃ k1, Hid (kk = k1 + 1) := ⟨kk - 1, by show _ = _; omega⟩
          obtain ⟨y, P, Q, hP, hp, hD3, hDl⟩ : ∃ y P Q, Hid (D2 = P ++ y :: x :: Q) ∧ Hid (P.length = k1) ∧ Hid (P ++ x :: y :: Q = X ++ U.take (k1 - a) ++ x :: (U.drop (k1 - a) ++ Y)) ∧ Hid (D2.length = n) := by
            have h1 := HA.out; have h2 := HM.out; have h3 := hk1.out
            have hkk : k1 - a < U.length := by omega
            refine ⟨U[k1 - a]'hkk, X ++ U.take (k1 - a), U.drop (k1 - a + 1) ++ Y, ?_, ?_, ?_, ?_⟩
            · show _ = _
              rw [HD2.out, show kk - a = k1 - a + 1 by omega, List.take_succ_eq_append_getElem hkk]
              simp only [List.append_assoc, List.cons_append, List.nil_append]
            · show _ = _
              rw [List.length_append, List.length_take]; omega
            · show _ = _
              rw [List.drop_eq_getElem_cons hkk, List.cons_append]
            · show _ = _
              rw [HD2.out, ← HN.out, hD.out]
              simp only [List.length_append, List.length_take, List.length_drop, List.length_cons, List.length_nil]; omega
          have l1 := HW.out.drew.load HE.out Pg (j := kk) (x := x) (by rw [hP.out, show P ++ y :: x :: Q = (P ++ [y]) ++ x :: Q by simp]; exact at_mid _ _ _ (by have := hp.out; have := hk1.out; simp; omega))
          have l2 := HW.out.drew.load HE.out Pg (j := k1) (x := y) (by rw [hP.out]; exact at_mid _ _ _ hp.out)
          have lt1 : kk < D2.length := by rw [hDl.out]; omega
          have lt2 : k1 < D2.length := by rw [hDl.out]; have := hk1.out; omega
          have s1 := HW.out.drew.store HE.out Pg lt1 y
          have s2 := (HW.out.drew.set HE.out lt1 y).store HE.out Pg (j := k1) (by rw [List.length_set]; exact lt2) x
          have n1 : (enc x).length = k := HE.out.len _
          have n2 : (enc y).length = k := HE.out.len _
          have S3 : Hid (SwK enc k w0 blk off ((D2.set kk y).set k1 x) _) := HW.out.swap HE.out lt1 lt2
          have HD4 : Hid ((D2.set kk y).set k1 x = X ++ U.take (k1 - a) ++ x :: (U.drop (k1 - a) ++ Y)) := by
            show _ = _
            rw [← hD3.out, hP.out, hk1.out, ← hp.out, swap_adj]
          obtain ⟨D4, hD4⟩ : ∃ D4, D4 = (D2.set kk y).set k1 x := ⟨_, rfl⟩
          rw [← hD4] at HD4 S3
          clear hD4 lt1 lt2
          have q3 : (kk : Int) < (n : Int) := by omega
          have q4 : (kk : Int) - 1 < (n : Int) := by omega
          have q5 : IntKind.i64.wrap ((kk : Int) - 1) = (kk : Int) - 1 := wrap_is (by omega)
          have q6 : (0 : Int) ≤ (kk : Int) - 1 := by omega
          have q7 : ((kk : Int) - 1).toNat = k1 := by have := hk1.out; omega
          have q8 : 0 < kk := by omega
          have q9 : kk ≤ n := by omega
          have q10 : (1 : Int) ≤ (kk : Int) := by omega
          obtain ⟨cx, hcx⟩ : ∃ c, c = enc x := ⟨_, rfl⟩
          obtain ⟨cy, hcy⟩ : ∃ c, c = enc y := ⟨_, rfl⟩
          rw [← hcx] at l1 s2 n1 S3
          rw [← hcy] at l2 s1 s2 n2 S3
          clear hcx hcy
          go_wp2_with fail
          go_big_region_o
          all_goals go_wp2
          exact ⟨⟨k1, D4, by have := hk1.out; go_num, by have := hk1.out; omega, by have := hk1.out; omega, HD4, S3⟩, by have := hk1.out; simp [intOf]; omega⟩
        · have hlz2 : ¬ (i : Int) < (kk : Int) := by omega
          obtain rfl : kk = i := by omega
          go_wp2
          refine bodyPost_ret (results_none rfl _ _ _) rfl ?_
          exact ⟨rfl, by rw [← HF.out, ← HD2.out]; exact HW.out⟩
end Go.Proofs.Ytomdbjmbkfdcmaa

namespace Go.Proofs.Ytomdbjmbkfdcmaa
set_option maxRecDepth 100000
open Go.RowKit Go.Sort Srt
variable {α : Type} {Pg : Program} {enc : α → List Value} {k : Nat}

set_option maxHeartbeats 6400000 in
theorem symMergeK_any {lt : α → α → Bool} (hw : Weak lt) (L : LayK Pg k) (henc : EncK enc k) (g : Nat) (cb : Array Value) (blk off cap n : Nat) (w0 : World)
    (eg : ∀ args w, (callFunc g args).run Pg w = .ok (.enter g args) w) (hcmp : CmpK Pg g cb enc k lt blk off n w0) (hmax : n < 1000000000000000000) :
    ∀ (z a m b : Nat) (X U V Y : List α) (w : World), U.length + V.length ≤ z → 0 < U.length → 0 < V.length →
    (X ++ U ++ V ++ Y).length = n → X.length = a → a + U.length = m → m + V.length = b → Sorted lt U → Sorted lt V →
    SwK enc k w0 blk off (X ++ U ++ V ++ Y) w →
    Calls Pg 102 #[.slice (some ⟨blk, off, none⟩) n cap, .int .i64 a, .int .i64 m, .int .i64 b, .func (.func g) #[] cb] w fun e w' => e = .returned (.tuple #[]) ∧ SwK enc k w0 blk off (X ++ merge lt U V ++ Y) w' := by
  intro z
  induction z with
  | zero => intro a m b X U V Y w h1 h2; omega
  | succ z ih =>
  intro a m b X U V Y w hz hu hv hn ha hm hb hsu hsv HS
  rcases Nat.lt_or_ge U.length 2 with h1 | h1
  · obtain ⟨x, rfl⟩ : ∃ x, U = [x] := List.length_eq_one_iff.1 (by omega)
    exact symMergeK_left hw L henc g cb blk off cap a m b n X V Y x w0 w eg hcmp hn ha (by simp at hm; omega) hb hsv hmax HS
  rcases Nat.lt_or_ge V.length 2 with h2 | h2
  · obtain ⟨x, rfl⟩ : ∃ x, V = [x] := List.length_eq_one_iff.1 (by omega)
    exact symMergeK_right hw L henc g cb blk off cap a m b n X U Y x w0 w eg hcmp hn ha hm (by simp at hb; omega) h1 hsu hmax HS
  have hbn : b ≤ n := by simp at hn; omega
  obtain ⟨F, hF⟩ : ∃ F, Hid (F = X ++ merge lt U V ++ Y) := ⟨_, rfl⟩
  obtain ⟨D, hD⟩ : ∃ D, Hid (D = X ++ U ++ V ++ Y) := ⟨_, rfl⟩
  rw [← hF.out]
  rw [← hD.out] at hn HS
  have hatU : Hid (∀ h, a ≤ h → h < m → ∃ y, U[h - a]? = some y ∧ D[h]? = some y) := by
    intro h g1 g2
    have h3 : h - a < U.length := by omega
    refine ⟨U[h - a]'h3, List.getElem?_eq_getElem h3, ?_⟩
    rw [hD.out, List.append_assoc, List.append_assoc, List.getElem?_append_right (by omega), List.getElem?_append_left (by omega), ← List.getElem?_eq_getElem h3, ha]
  have hatV : Hid (∀ h, m ≤ h → h < b → ∃ y, V[h - m]? = some y ∧ D[h]? = some y) := by
    intro h g1 g2
    have h3 : h - m < V.length := by omega
    refine ⟨V[h - m]'h3, List.getElem?_eq_getElem h3, ?_⟩
    rw [hD.out, List.getElem?_append_left (by simp; omega), List.getElem?_append_right (by simp; omega), ← List.getElem?_eq_getElem h3]
    congr 1
    simp; omega
  have ham : a + 2 ≤ m := by omega
  have hmb : m + 2 ≤ b := by omega
  have HN := Lib.hid hn; have HA := Lib.hid ha; have HM := Lib.hid hm; have HB := Lib.hid hb; have HC := Lib.hid hcmp; have HW := Lib.hid HS; have HWk := Lib.hid hw; have HSU := Lib.hid hsu; have HSV := Lib.hid hsv; have IH := Lib.hid ih; have HZ := Lib.hid hz
  clear hn ha hm hb hcmp HS hw hsu hsv ih hz hu hv h1 h2
  obtain ⟨e1, w1, he1⟩ : ∃ e : Nat, IntKind.i64.wrap ((m : Int) - a) = (e : Int) ∧ ((e : Int) == 1) = false := ⟨m - a, by rw [wrap_is (by omega)]; omega, by rw [beq_eq_false_iff_ne]; omega⟩
  obtain ⟨e2, w2, he2⟩ : ∃ e : Nat, IntKind.i64.wrap ((b : Int) - m) = (e : Int) ∧ ((e : Int) == 1) = false := ⟨b - m, by rw [wrap_is (by omega)]; omega, by rw [beq_eq_false_iff_ne]; omega⟩
  have he3 : ¬ (e1 : Int) = 1 := by simpa using he1
  have he4 : ¬ (e2 : Int) = 1 := by simpa using he2
  have w3 : IntKind.i64.wrap ((a : Int) + b) = (a : Int) + b := wrap_is (by omega)
  obtain ⟨mid, hmid, hm1, hm2⟩ : ∃ mid : Nat, ((a : Int) + b) / 2 = mid ∧ 2 * mid ≤ a + b ∧ a + b ≤ 2 * mid + 1 := ⟨(a + b) / 2, by omega, by omega, by omega⟩
  obtain ⟨N, w4, hN⟩ : ∃ N : Nat, IntKind.i64.wrap ((mid : Int) + m) = (N : Int) ∧ Hid (N = mid + m) := ⟨mid + m, by rw [wrap_is (by omega)]; omega, rfl⟩
  obtain ⟨s1, w5, hs1⟩ : ∃ s1 : Int, IntKind.i64.wrap ((N : Int) - b) = s1 ∧ Hid (s1 = (mid : Int) + m - b) := ⟨_, rfl, by show _ = _; have := hN.out; rw [wrap_is (by omega)]; omega⟩
  obtain ⟨p, w6, hp⟩ : ∃ p : Nat, IntKind.i64.wrap ((N : Int) - 1) = (p : Int) ∧ Hid (p + 1 = mid + m) := ⟨N - 1, by have := hN.out; rw [wrap_is (by omega)]; omega, by show _ = _; have := hN.out; omega⟩
  have mixed := L.mixed; have tU := L.tU; have aU := L.aU; have zU := L.zU; have vU := L.vU; have tI := L.tI; have aI := L.aI; have zI := L.zI; have vI := L.vI; have tB := L.tB; have aB := L.aB; have zB := L.zB; have vB := L.vB; have tS := L.tS; have aS := L.aS; have zS := L.zS; have vS := L.vS; have tC := L.tC; have aC := L.aC; have zC := L.zC; have vC := L.vC; have tW := L.tW; have aW := L.aW; have zW := L.zW; have vW := L.vW; have aE := L.aE; have zE := L.zE
  have erot : ∀ args w, (callFunc 117 args).run Pg w = .ok (.enter 117 args) w := enters_of L.rot (by kernel_rfl) rfl
  have esym : ∀ args w, (callFunc 102 args).run Pg w = .ok (.enter 102 args) w := enters_of L.sym (by kernel_rfl) rfl
  have HE := Lib.hid henc; have HL0 := Lib.hid L
  clear henc L
  go_enter HL0.out.sym, Try.ntmps102
  go_upto_if 140 with fail
  go_cut [20, 21] (fun v u W => ∃ s0 r0 : Nat, v = .int .i64 s0 ∧ u = .int .i64 r0 ∧ Hid ((mid < m ∧ s0 + b = mid + m ∧ r0 = mid) ∨ (m ≤ mid ∧ s0 = a ∧ r0 = m)) ∧ Hid (SwK enc k w0 blk off D W))
  case first => as_aux_lemma =>
    rcases Nat.lt_or_ge mid m with h | h
    · have hz : (mid : Int) < (m : Int) := by omega
      go_wp2
      go_meet
      have := hs1.out
      refine ⟨mid + m - b, mid, ?_, rfl, .inl ⟨h, by omega, rfl⟩, HW⟩
      congr 1
      omega
    · have hz : ¬ (mid : Int) < (m : Int) := by omega
      go_wp2
      go_meet
      exact ⟨a, m, rfl, rfl, .inr ⟨h, rfl, rfl⟩, HW⟩
  case rest =>
    clear HW w1 w2 w3 w4 w5 hs1 he1 he2 he3 he4 hmid
    obtain ⟨s0, r0, rfl, rfl, hsr, HW⟩ := hcut
    have hs2 : s0 ≤ r0 := by rcases hsr.out with h | h <;> omega
    have hs3 : a ≤ s0 := by rcases hsr.out with h | h <;> omega
    have hs4 : r0 ≤ m := by rcases hsr.out with h | h <;> omega
    go_upto_block 8 with (fail)
    clear w6
    go_cut [20, 21] (fun v u W => ∃ s : Nat, v = .int .i64 s ∧ u = .int .i64 s ∧ s0 ≤ s ∧ s ≤ r0 ∧ Hid (s0 < s → ∀ x y, D[s - 1]? = some x → D[p - (s - 1)]? = some y → lt y x = false) ∧ Hid (s < r0 → ∀ x y, D[s]? = some x → D[p - s]? = some y → lt y x = true) ∧ Hid (SwK enc k w0 blk off D W))
    case first => as_aux_lemma =>
      go_wp2_with fail
      go_loopw [20, 21] (fun v u wr => ∃ s r : Nat, v = .int .i64 s ∧ u = .int .i64 r ∧ s0 ≤ s ∧ s ≤ r ∧ r ≤ r0 ∧ Hid (s0 < s → ∀ x y, D[s - 1]? = some x → D[p - (s - 1)]? = some y → lt y x = false) ∧ Hid (r < r0 → ∀ x y, D[r]? = some x → D[p - r]? = some y → lt y x = true) ∧ Hid (SwK enc k w0 blk off D wr)) (fun v u _ => (intOf u).toNat - (intOf v).toNat)
      case atStart => exact ⟨s0, r0, rfl, rfl, Nat.le_refl _, hs2, Nat.le_refl _, fun h => absurd h (Nat.lt_irrefl _), fun h => absurd h (Nat.lt_irrefl _), HW⟩
      case round =>
        clear HW
        obtain ⟨s, r, rfl, rfl, hs0s, hsr1, hrr, HL, HG, HW⟩ := hrel
        by_cases hlt : s < r
        · have hlz : (s : Int) < (r : Int) := by omega
          obtain ⟨c, hc, hsc, hcr⟩ : ∃ c : Nat, ((s : Int) + r) / 2 = c ∧ s ≤ c ∧ c < r := ⟨(s + r) / 2, by omega, by omega, by omega⟩
          have w7 : IntKind.i64.wrap ((s : Int) + r) = (s : Int) + r := wrap_is (by omega)
          obtain ⟨d, w8, hd, hd1, hd2⟩ : ∃ d : Nat, IntKind.i64.wrap ((p : Int) - c) = (d : Int) ∧ Hid (p - c = d) ∧ m ≤ d ∧ d < b := by
            have := hp.out
            rcases hsr.out with h | h
            · exact ⟨p - c, by rw [wrap_is (by omega)]; omega, rfl, by omega, by omega⟩
            · exact ⟨p - c, by rw [wrap_is (by omega)]; omega, rfl, by omega, by omega⟩
          obtain ⟨x, hx, hxD⟩ := hatU.out c (by omega) (by omega)
          obtain ⟨y, hy, hyD⟩ := hatV.out d hd1 hd2
          have K : Hid (∀ W, SwK enc k w0 blk off D W → Sem.run Pg (loadCellsFrom ⟨blk, off + d * k, none⟩ 0 k #[]) W = .ok (enc y).toArray W ∧ Sem.run Pg (loadCellsFrom ⟨blk, off + c * k, none⟩ 0 k #[]) W = .ok (enc x).toArray W) := by
            intro W hW
            exact ⟨hW.load HE.out Pg hyD, hW.load HE.out Pg hxD⟩
          have HX := Lib.hid hxD; have HY := Lib.hid hyD
          clear hx hxD hy hyD
          have q1 : (c : Int) < (n : Int) := by omega
          have q2 : (d : Int) < (n : Int) := by omega
          cases hv : lt y x with
          | true =>
            obtain ⟨rr, hr, C⟩ := HC.out.at hv HN.out HW.out
            have l1 : ∀ m os, _ := fun m os => (K.out _ (HW.out.grown m os)).1
            have l2 : ∀ m os, _ := fun m os => (K.out _ (HW.out.grown m os)).2
            go_wp2_with fail
            go_quiet_grown (first | (go_at_fn g; refine Calls.grown_of (C _ _)))
            have S2 := Lib.hid (HW.out.grown nq osq)
            clear C l1 l2
            generalize grow (wr.drewN nq) osq = wq at S2 ⊢
            clear w7 w8 hc
            have HG2 : Hid (c < r0 → ∀ x y, D[c]? = some x → D[p - c]? = some y → lt y x = true) := by
              intro _ x' y' h1 h2
              rw [HX.out] at h1
              rw [hd.out, HY.out] at h2
              injection h1 with h1; injection h2 with h2
              subst h1 h2
              exact hv
            go_wp2
            exact ⟨⟨s, c, rfl, rfl, hs0s, hsc, by omega, HL, HG2, S2⟩, by simp [intOf]; omega⟩
          | false =>
            obtain ⟨rr, hr, C⟩ := HC.out.at hv HN.out HW.out
            have l1 : ∀ m os, _ := fun m os => (K.out _ (HW.out.grown m os)).1
            have l2 : ∀ m os, _ := fun m os => (K.out _ (HW.out.grown m os)).2
            go_wp2_with fail
            go_quiet_grown (first | (go_at_fn g; refine Calls.grown_of (C _ _)))
            have S2 := Lib.hid (HW.out.grown nq osq)
            clear C l1 l2
            generalize grow (wr.drewN nq) osq = wq at S2 ⊢
            clear w7 w8 hc
            have HL2 : Hid (s0 < c + 1 → ∀ x y, D[c + 1 - 1]? = some x → D[p - (c + 1 - 1)]? = some y → lt y x = false) := by
              intro _ x' y' h1 h2
              rw [Nat.add_sub_cancel] at h1 h2
              rw [HX.out] at h1
              rw [hd.out, HY.out] at h2
              injection h1 with h1; injection h2 with h2
              subst h1 h2
              exact hv
            go_wp2
            exact ⟨⟨c + 1, r, by go_num, rfl, by omega, by omega, hrr, HL2, HG, S2⟩, by simp [intOf]; omega⟩
        · have hlz : ¬ (s : Int) < (r : Int) := by omega
          obtain rfl : s = r := by omega
          go_wp2
          go_meet
          exact ⟨s, rfl, rfl, hs0s, hrr, HL, HG, HW⟩
    case rest =>
      clear HW
      obtain ⟨s, rfl, rfl, hs0s, hrr, HL, HG, HW⟩ := hcut
      obtain ⟨e, w7, hee, he5, he6⟩ : ∃ e : Nat, IntKind.i64.wrap ((N : Int) - s) = (e : Int) ∧ Hid (e + s = mid + m) ∧ m ≤ e ∧ e ≤ b := by
        have := hN.out
        rcases hsr.out with h | h
        · exact ⟨N - s, by rw [wrap_is (by omega)]; omega, by show _ = _; omega, by omega, by omega⟩
        · exact ⟨N - s, by rw [wrap_is (by omega)]; omega, by show _ = _; omega, by omega, by omega⟩
      obtain ⟨U1, U2, V1, V2, hU, hV, lU1, lU2, lV1, lV2, hM⟩ : ∃ U1 U2 V1 V2, Hid (U = U1 ++ U2) ∧ Hid (V = V1 ++ V2) ∧ Hid (a + U1.length = s) ∧ Hid (s + U2.length = m) ∧ Hid (m + V1.length = e) ∧ Hid (e + V2.length = b) ∧ Hid (merge lt U V = merge lt U1 V1 ++ merge lt U2 V2) := by
        have lu := HM.out; have lv := HB.out; have he := hee.out; have hpp := hp.out
        refine ⟨U.take (s - a), U.drop (s - a), V.take (e - m), V.drop (e - m), by show _ = _; rw [List.take_append_drop], by show _ = _; rw [List.take_append_drop], by show _ = _; rw [List.length_take]; omega, by show _ = _; rw [List.length_drop]; omega, by show _ = _; rw [List.length_take]; omega, by show _ = _; rw [List.length_drop]; omega, ?_⟩
        refine cut_merge HWk.out HSU.out HSV.out ?_ ?_ (by omega) (by omega)
        · intro c1 c2 c3 x y hx hy
          obtain ⟨x', k1, k2⟩ := hatU.out (s - 1) (by omega) (by omega)
          obtain ⟨y', k3, k4⟩ := hatV.out e (by omega) (by omega)
          rw [show s - a - 1 = s - 1 - a by omega, k1] at hx
          rw [k3] at hy
          injection hx with hx; injection hy with hy
          subst hx hy
          exact HL.out (by rcases hsr.out with h | h <;> omega) _ _ k2 (by rw [show p - (s - 1) = e by omega]; exact k4)
        · intro c1 c2 c3 x y hx hy
          obtain ⟨x', k1, k2⟩ := hatU.out s (by omega) (by omega)
          obtain ⟨y', k3, k4⟩ := hatV.out (e - 1) (by omega) (by omega)
          rw [k1] at hx
          rw [show e - m - 1 = e - 1 - m by omega, k3] at hy
          injection hx with hx; injection hy with hy
          subst hx hy
          exact HG.out (by rcases hsr.out with h | h <;> omega) _ _ k2 (by rw [show p - s = e - 1 by omega]; exact k4)
      clear HL HG hatU hatV
      obtain ⟨D1, hD1⟩ : ∃ D1, Hid (D1 = X ++ U1 ++ V1 ++ U2 ++ V2 ++ Y) := ⟨_, rfl⟩
      have lD1 : Hid (D1.length = n) := by
        show _ = _
        have := HN.out
        rw [hD.out, hU.out, hV.out] at this
        rw [hD1.out]
        simp at this ⊢
        omega
      have has : a ≤ s := by have := lU1.out; omega
      have hsm : s ≤ m := by have := lU2.out; omega
      go_upto_region 39 with fail
      clear w7
      go_cut [24, 185] (fun u v W => ∃ bb : Bool, u = .int .i64 e ∧ v = .bool bb ∧ Hid (bb = decide (s < m ∧ m < e)) ∧ Hid (W = wc))
      case first => as_aux_lemma =>
        by_cases g1 : s < m
        · have z1 : (s : Int) < (m : Int) := by omega
          by_cases g2 : m < e
          · have z2 : (m : Int) < (e : Int) := by omega
            go_wp2
            go_meet
            exact ⟨true, rfl, rfl, by show _ = _; simp [g1, g2], Lib.hid rfl⟩
          · have z2 : ¬ (m : Int) < (e : Int) := by omega
            go_wp2
            go_meet
            exact ⟨false, rfl, rfl, by show _ = _; simp [g2], Lib.hid rfl⟩
        · have z1 : ¬ (s : Int) < (m : Int) := by omega
          go_wp2
          go_meet
          exact ⟨false, rfl, rfl, by show _ = _; simp [g1], Lib.hid rfl⟩
      case rest =>
        obtain ⟨bb, rfl, rfl, hbb, hwc⟩ := hcut
        have hwc2 := hwc.out
        subst hwc2
        clear hwc
        go_upto_if 185 with fail
        go_cut [24] (fun v W => v = .int .i64 e ∧ Hid (SwK enc k w0 blk off D1 W))
        case first => as_aux_lemma =>
          cases bb with
          | true =>
            have gg : s < m ∧ m < e := by have := hbb.out; simpa using this.symm
            have C := Lib.hid (rotateK_any HL0.out HE.out g cb blk off cap s m e n (X ++ U1) U2 V1 (V2 ++ Y) w0 wc
              (by have := HN.out; rw [hD.out, hU.out, hV.out] at this; simpa using this) (by rw [List.length_append]; have := HA.out; have := lU1.out; omega)
              (by rw [List.length_append]; have := HA.out; have := lU1.out; have := lU2.out; omega) lV1.out (by have := lU2.out; omega) (by have := lV1.out; omega) hmax
              (by have := HW.out; rw [hD.out, hU.out, hV.out] at this; simpa using this))
            go_wp2_with (go_at_call 117; refine C.out.mono ?_; rintro e w' ⟨rfl, HS⟩)
            go_meet
            exact ⟨rfl, by show SwK _ _ _ _ _ _ _; rw [hD1.out]; simpa using HS⟩
          | false =>
            have gg : ¬ (s < m ∧ m < e) := by have := hbb.out; simpa using this.symm
            have HW1 : Hid (SwK enc k w0 blk off D1 wc) := by
              have := HW.out
              rw [hD.out, hU.out, hV.out] at this
              show SwK _ _ _ _ _ _ _
              rw [hD1.out]
              rcases (show U2 = [] ∨ V1 = [] by
                rcases Nat.lt_or_ge s m with g1 | g1
                · exact .inr (List.eq_nil_of_length_eq_zero (by have := lV1.out; omega))
                · exact .inl (List.eq_nil_of_length_eq_zero (by have := lU2.out; omega))) with h3 | h3
              all_goals
                rw [h3] at this ⊢
                simpa using this
            go_wp2
            go_meet
            exact ⟨rfl, HW1⟩
        case rest =>
          clear HW
          obtain ⟨rfl, HW⟩ := hcut
          obtain ⟨D2, hD2⟩ : ∃ D2, Hid (D2 = X ++ merge lt U1 V1 ++ U2 ++ V2 ++ Y) := ⟨_, rfl⟩
          have lD2 : Hid (D2.length = n) := by
            show _ = _
            have := lD1.out
            rw [hD1.out] at this
            rw [hD2.out]
            simp [merge_len] at this ⊢
            omega
          have sU1 := Lib.hid (Sorted.split (by have := HSU.out; rw [hU.out] at this; exact this : Sorted lt (U1 ++ U2))).1
          have sU2 := Lib.hid (Sorted.split (by have := HSU.out; rw [hU.out] at this; exact this : Sorted lt (U1 ++ U2))).2.1
          have sV1 := Lib.hid (Sorted.split (by have := HSV.out; rw [hV.out] at this; exact this : Sorted lt (V1 ++ V2))).1
          have sV2 := Lib.hid (Sorted.split (by have := HSV.out; rw [hV.out] at this; exact this : Sorted lt (V1 ++ V2))).2.1
          have hz2 : b - a ≤ z + 1 := by have := HZ.out; have := HM.out; have := HB.out; omega
          go_upto_region 41 with fail
          go_cut [24, 199] (fun u v W => ∃ bb : Bool, u = .int .i64 e ∧ v = .bool bb ∧ Hid (bb = decide (a < s ∧ s < mid)) ∧ Hid (W = wc))
          case first => as_aux_lemma =>
            by_cases g1 : a < s
            · have z1 : (a : Int) < (s : Int) := by omega
              by_cases g2 : s < mid
              · have z2 : (s : Int) < (mid : Int) := by omega
                go_wp2
                go_meet
                exact ⟨true, rfl, rfl, by show _ = _; simp [g1, g2], Lib.hid rfl⟩
              · have z2 : ¬ (s : Int) < (mid : Int) := by omega
                go_wp2
                go_meet
                exact ⟨false, rfl, rfl, by show _ = _; simp [g2], Lib.hid rfl⟩
            · have z1 : ¬ (a : Int) < (s : Int) := by omega
              go_wp2
              go_meet
              exact ⟨false, rfl, rfl, by show _ = _; simp [g1], Lib.hid rfl⟩
          case rest =>
            obtain ⟨bb, rfl, rfl, hbb, hwc⟩ := hcut
            have hwc2 := hwc.out
            subst hwc2
            clear hwc
            go_upto_if 199 with fail
            go_cut [24] (fun v W => v = .int .i64 e ∧ Hid (SwK enc k w0 blk off D2 W))
            case first => as_aux_lemma =>
              cases bb with
              | true =>
                have gg : a < s ∧ s < mid := by have := hbb.out; simpa using this.symm
                have C := Lib.hid (IH.out a s mid X U1 V1 (U2 ++ V2 ++ Y) wc (by have := lU1.out; have := lV1.out; have := hee.out; omega) (by have := lU1.out; omega) (by have := lV1.out; have := hee.out; omega)
                  (by have := lD1.out; rw [hD1.out] at this; simpa using this) HA.out lU1.out (by have := lV1.out; have := hee.out; omega) sU1.out sV1.out
                  (by have := HW.out; rw [hD1.out] at this; simpa using this))
                go_wp2_with (go_at_call 102; refine C.out.mono ?_; rintro e w' ⟨rfl, HS⟩)
                go_meet
                exact ⟨rfl, by show SwK _ _ _ _ _ _ _; rw [hD2.out]; simpa using HS⟩
              | false =>
                have gg : ¬ (a < s ∧ s < mid) := by have := hbb.out; simpa using this.symm
                have HW1 : Hid (SwK enc k w0 blk off D2 wc) := by
                  have := HW.out
                  rw [hD1.out] at this
                  show SwK _ _ _ _ _ _ _
                  rw [hD2.out, merge_none (by have := lU1.out; have := lV1.out; have := hee.out; omega)]
                  simpa using this
                go_wp2
                go_meet
                exact ⟨rfl, HW1⟩
            case rest =>
              clear HW
              obtain ⟨rfl, HW⟩ := hcut
              have HF2 : Hid (F = X ++ merge lt U1 V1 ++ merge lt U2 V2 ++ Y) := by show _ = _; rw [hF.out, hM.out]; simp
              rcases Nat.lt_or_ge mid e with g1 | g1
              · have z1 : (mid : Int) < (e : Int) := by omega
                rcases Nat.lt_or_ge e b with g2 | g2
                · have z2 : (e : Int) < (b : Int) := by omega
                  have C := Lib.hid (IH.out mid e b (X ++ merge lt U1 V1) U2 V2 Y wc (by have := lU2.out; have := lV2.out; have := hee.out; omega) (by have := lU2.out; have := hee.out; omega) (by have := lV2.out; omega)
                    (by have := lD2.out; rw [hD2.out] at this; simpa using this) (by rw [List.length_append, merge_len]; have := HA.out; have := lU1.out; have := lV1.out; have := hee.out; omega) (by have := lU2.out; have := hee.out; omega) lV2.out sU2.out sV2.out
                    (by have := HW.out; rw [hD2.out] at this; simpa using this))
                  go_wp2_with (go_at_call 102; refine C.out.mono ?_; rintro e w' ⟨rfl, HS⟩)
                  go_end0
                  exact ⟨rfl, by rw [HF2.out]; simpa using HS⟩
                · have z2 : ¬ (e : Int) < (b : Int) := by omega
                  have HW1 : Hid (SwK enc k w0 blk off F wc) := by
                    have := HW.out
                    rw [hD2.out] at this
                    show SwK _ _ _ _ _ _ _
                    rw [HF2.out, merge_none (U := U2) (by have := lV2.out; omega)]
                    simpa using this
                  go_wp2
                  go_end0
                  exact ⟨rfl, HW1.out⟩
              · have z1 : ¬ (mid : Int) < (e : Int) := by omega
                have HW1 : Hid (SwK enc k w0 blk off F wc) := by
                  have := HW.out
                  rw [hD2.out] at this
                  show SwK _ _ _ _ _ _ _
                  rw [HF2.out, merge_none (U := U2) (by have := lU2.out; have := hee.out; omega)]
                  simpa using this
                go_wp2
                go_end0
                exact ⟨rfl, HW1.out⟩
end Go.Proofs.Ytomdbjmbkfdcmaa

namespace Go.Proofs.Ytomdbjmbkfdcmaa
set_option maxRecDepth 100000
open Go.RowKit Go.Sort Srt
variable {α : Type} {Pg : Program} {enc : α → List Value} {k : Nat}

set_option maxHeartbeats 6400000 in
theorem stableK_any {lt : α → α → Bool} (hw : Weak lt) (L : LayK Pg k) (henc : EncK enc k) (g : Nat) (cb : Array Value) (blk off cap n : Nat) (d : List α) (w0 w : World)
    (eg : ∀ args w, (callFunc g args).run Pg w = .ok (.enter g args) w) (hcmp : CmpK Pg g cb enc k lt blk off n w0) (hmax : n < 1000000000000000000)
    (hn : d.length = n) (HS : SwK enc k w0 blk off d w) :
    Calls Pg 90 #[.slice (some ⟨blk, off, none⟩) n cap, .int .i64 n, .func (.func g) #[] cb] w fun e w' => e = .returned (.tuple #[]) ∧ SwK enc k w0 blk off (isort lt d) w' := by
  have HN := Lib.hid hn; have HC := Lib.hid hcmp; have HW := Lib.hid HS; have HWk := Lib.hid hw
  clear hn hcmp HS hw
  obtain ⟨F, hF⟩ : ∃ F, Hid (F = isort lt d) := ⟨_, rfl⟩
  rw [← hF.out]
  have mixed := L.mixed; have tU := L.tU; have aU := L.aU; have zU := L.zU; have vU := L.vU; have tI := L.tI; have aI := L.aI; have zI := L.zI; have vI := L.vI; have tB := L.tB; have aB := L.aB; have zB := L.zB; have vB := L.vB; have tS := L.tS; have aS := L.aS; have zS := L.zS; have vS := L.vS; have tC := L.tC; have aC := L.aC; have zC := L.zC; have vC := L.vC; have tW := L.tW; have aW := L.aW; have zW := L.zW; have vW := L.vW; have aE := L.aE; have zE := L.zE
  have eins : ∀ args w, (callFunc 101 args).run Pg w = .ok (.enter 101 args) w := enters_of L.ins (by kernel_rfl) rfl
  have esym : ∀ args w, (callFunc 102 args).run Pg w = .ok (.enter 102 args) w := enters_of L.sym (by kernel_rfl) rfl
  have HE := Lib.hid henc; have HL0 := Lib.hid L
  clear henc L
  go_enter HL0.out.stb, Try.ntmps90
  go_wp2_with fail
  go_loopw [7, 8] (fun v u wr => ∃ (kk c : Nat) (D : List α), v = .int .i64 c ∧ u = .int .i64 ((c + 20 : Nat) : Int) ∧ c ≤ n ∧ Hid (c = kk * 20) ∧ Hid (D = parts lt 20 d 0 kk ++ d.drop c) ∧ Hid (SwK enc k w0 blk off D wr)) (fun v _ _ => n + 1 - (intOf v).toNat)
  case atStart => exact ⟨0, 0, d, rfl, rfl, Nat.zero_le _, by show _ = _; omega, by show _ = _; simp [parts], HW⟩
  case round =>
    clear HW
    obtain ⟨kk, c, D, rfl, rfl, hcn, hc, HD, HW⟩ := hrel
    obtain ⟨P, hP, lP⟩ : ∃ P, Hid (P = parts lt 20 d 0 kk) ∧ Hid (P.length = c) := by
      refine ⟨_, rfl, ?_⟩
      show _ = _
      have h1 := hc.out; have h2 := HN.out
      rw [parts_len_all]; omega
    by_cases hlt : c + 20 ≤ n
    · have hlz : ((c + 20 : Nat) : Int) ≤ (n : Int) := by omega
      obtain ⟨S, Y, hS, lS, hdc⟩ : ∃ S Y : List α, Hid (S = (d.drop (kk * 20)).take 20) ∧ Hid (S.length = 20) ∧ Hid (d.drop c = S ++ Y ∧ Y = d.drop (c + 20)) := by
        have h1 := hc.out; have h2 := HN.out
        refine ⟨_, d.drop (c + 20), rfl, ?_, ?_, rfl⟩
        · show _ = _
          rw [List.length_take, List.length_drop]; omega
        · rw [← h1, ← List.drop_drop, List.take_append_drop]
      have C := Lib.hid (insSortK_any HWk.out HL0.out HE.out g cb blk off cap c (c + 20) n P S Y w0 wr eg HC.out
        (by have h3 := HD.out; have h4 := hdc.out.1; have h5 := HN.out; have h1 := lP.out
            rw [List.append_assoc, ← h4, List.length_append, List.length_drop]; omega) lP.out (by have := lP.out; have := lS.out; omega) hmax
        (by have := HW.out; rw [HD.out, ← hP.out, hdc.out.1] at this; simpa using this))
      have w1 : IntKind.i64.wrap (((c + 20 : Nat) : Int) + 20) = ((c + 20 + 20 : Nat) : Int) := by rw [wrap_is (by omega)]; omega
      obtain ⟨c2, hc2⟩ : ∃ c2, Hid (c2 = c + 20) := ⟨_, rfl⟩
      rw [← hc2.out] at C w1 hlz ⊢
      go_wp2_with (go_at_call 101; refine C.out.mono ?_; rintro e w' ⟨rfl, HS⟩)
      have HS2 := Lib.hid HS
      clear HS w1
      refine ⟨⟨kk + 1, c2, _, rfl, by go_num, by have := hc2.out; omega, by show _ = _; have h1 := hc.out; have h2 := hc2.out; omega, ?_, HS2⟩, by have := hc2.out; simp [intOf]; omega⟩
      show _ = _
      rw [parts_snoc, ← hP.out, hdc.out.2, hc2.out, Srt.part, hS.out, Nat.zero_add]
    · have hlz : ¬ ((c + 20 : Nat) : Int) ≤ (n : Int) := by omega
      have C := Lib.hid (insSortK_any HWk.out HL0.out HE.out g cb blk off cap c n n P (d.drop c) [] w0 wr eg HC.out
        (by have h5 := HN.out; have h1 := lP.out
            rw [List.append_nil, List.length_append, List.length_drop]; omega) lP.out (by have := lP.out; have h5 := HN.out; rw [List.length_drop]; omega) hmax
        (by have := HW.out; rw [HD.out, ← hP.out] at this; simpa using this))
      obtain ⟨c2, hc2⟩ : ∃ c2, Hid (c2 = c + 20) := ⟨_, rfl⟩
      rw [← hc2.out] at hlz ⊢
      go_wp2_with (go_at_call 101; refine C.out.mono ?_; rintro e w' ⟨rfl, HS⟩)
      have HS2 : Hid (∃ D, Hid (D = parts lt 20 d 0 (kk + 1)) ∧ SwK enc k w0 blk off D w') := by
        refine ⟨_, rfl, ?_⟩
        have h1 := hc.out; have h2 := HN.out
        rw [parts_snoc, ← hP.out, Srt.part, Nat.zero_add, ← h1, List.take_of_length_le (by rw [List.length_drop]; omega)]
        simpa using HS
      have hk1 : Hid (n ≤ (kk + 1) * 20) := by
        show _ ≤ _
        have h1 := hc.out
        omega
      clear HS
      go_loopw [6] (fun v wr => ∃ (s K : Nat) (D : List α), v = .int .i64 s ∧ 20 ≤ s ∧ s ≤ 2 * n + 20 ∧ 0 < K ∧ Hid (n ≤ K * s) ∧ Hid (D = parts lt s d 0 K) ∧ Hid (SwK enc k w0 blk off D wr)) (fun v _ => 2 * n + 21 - (intOf v).toNat)
      case atStart =>
        obtain ⟨D1, h1, h2⟩ := HS2.out
        exact ⟨20, kk + 1, D1, rfl, Nat.le_refl _, by omega, by omega, hk1, h1, h2⟩
      case round =>
        clear HS2 hk1 HW HD hP lP C hc hc2 hlz hlt hcn
        obtain ⟨s, K, D1, rfl, hs20, hsn, hK0, hK, HD, HW⟩ := hrel
        by_cases hlt : s < n
        · have hlz : (s : Int) < (n : Int) := by omega
          obtain ⟨t, w1, w2, ht⟩ : ∃ t : Nat, IntKind.i64.wrap (2 * (s : Int)) = (t : Int) ∧ IntKind.i64.wrap ((s : Int) * 2) = (t : Int) ∧ Hid (t = 2 * s) := ⟨2 * s, by rw [wrap_is (by omega)]; omega, by rw [wrap_is (by omega)]; omega, rfl⟩
          have ht0 : 0 < t := by have := ht.out; omega
          have H0 : Hid (D1 = parts lt t d 0 0 ++ parts lt s d (2 * 0) (K - 2 * 0)) := by show _ = _; rw [HD.out]; rfl
          clear HD
          go_wp2_with fail
          go_loopw [7, 8] (fun v u wr => ∃ (kk c e : Nat) (D : List α), v = .int .i64 c ∧ u = .int .i64 e ∧ c ≤ n ∧ Hid (c = kk * t) ∧ Hid (e = c + t) ∧ Hid (D = parts lt t d 0 kk ++ parts lt s d (2 * kk) (K - 2 * kk)) ∧ Hid (SwK enc k w0 blk off D wr)) (fun v _ _ => n + 1 - (intOf v).toNat)
          case atStart => exact ⟨0, 0, t, D1, rfl, rfl, Nat.zero_le _, by show _ = _; omega, by show _ = _; omega, H0, HW⟩
          case round =>
            clear HW H0
            obtain ⟨kk, c, e, D, rfl, rfl, hcn, hc, he, HD, HW⟩ := hrel
            obtain ⟨P, hP, lP⟩ : ∃ P, Hid (P = parts lt t d 0 kk) ∧ Hid (P.length = c) := by
              refine ⟨_, rfl, ?_⟩
              show _ = _
              have h1 := hc.out; have h2 := HN.out
              rw [parts_len_all]; omega
            by_cases hlt2 : e ≤ n
            · have hlz2 : (e : Int) ≤ (n : Int) := by omega
              obtain ⟨m, w3, hm⟩ : ∃ m : Nat, IntKind.i64.wrap ((c : Int) + s) = (m : Int) ∧ Hid (m = c + s) := ⟨c + s, by rw [wrap_is (by omega)]; omega, rfl⟩
              obtain ⟨e2, w4, he2⟩ : ∃ e2 : Nat, IntKind.i64.wrap ((e : Int) + t) = (e2 : Int) ∧ Hid (e2 = e + t) := ⟨e + t, by rw [wrap_is (by have := ht.out; omega)]; omega, rfl⟩
              obtain ⟨U, V, Y, hUV, lU, lV, sU, sV, hM⟩ : ∃ U V Y : List α, Hid (D = P ++ U ++ V ++ Y) ∧ Hid (U.length = s) ∧ Hid (V.length = s) ∧ Hid (Sorted lt U) ∧ Hid (Sorted lt V) ∧ Hid (P ++ merge lt U V ++ Y = parts lt t d 0 (kk + 1) ++ parts lt s d (2 * (kk + 1)) (K - 2 * (kk + 1))) := by
                have h1 := hc.out; have h2 := HN.out; have h3 := ht.out; have h4 := he.out; have h5 := hK.out
                have h6 : 2 * kk * s = kk * t := by rw [h3]; exact twice kk s
                have h7 : (2 * kk + 1) * s = 2 * kk * s + s := Nat.succ_mul _ _
                have h8 : 2 * kk + 2 ≤ K := by
                  rcases Nat.lt_or_ge K (2 * kk + 2) with h | h
                  · have h9 : K * s ≤ (2 * kk + 1) * s := Nat.mul_le_mul_right s (by omega)
                    omega
                  · exact h
                refine ⟨Srt.part lt s d (2 * kk), Srt.part lt s d (2 * kk + 1), parts lt s d (2 * (kk + 1)) (K - 2 * (kk + 1)), ?_, ?_, ?_, part_sorted HWk.out _ _ _, part_sorted HWk.out _ _ _, ?_⟩
                · show _ = _
                  rw [HD.out, hP.out, parts_two h8]; simp
                · show _ = _
                  rw [part_len]; omega
                · show _ = _
                  rw [part_len]; omega
                · show _ = _
                  rw [part_two HWk.out, hP.out, parts_snoc, Nat.zero_add, h3]
              have lD : Hid (D.length = n) := by
                show _ = _
                have h1 := hc.out; have h2 := HN.out; have h3 := ht.out; have h5 := hK.out
                have h6 : 2 * kk * s = kk * t := by rw [h3]; exact twice kk s
                have h7 : (K - 2 * kk) * s = K * s - 2 * kk * s := Nat.sub_mul _ _ _
                have h8 := lP.out
                rw [hP.out] at h8
                rw [HD.out, List.length_append, h8, parts_len_all]
                omega
              have C := Lib.hid (symMergeK_any HWk.out HL0.out HE.out g cb blk off cap n w0 eg HC.out hmax (s + s) c m e P U V Y wr (by have := lU.out; have := lV.out; omega) (by have := lU.out; omega) (by have := lV.out; omega)
                (by have := lD.out; rw [hUV.out] at this; exact this) lP.out (by have := lU.out; have := hm.out; omega) (by have := lV.out; have := hm.out; have := he.out; have := ht.out; omega) sU.out sV.out (by have := HW.out; rw [hUV.out] at this; exact this))
              go_wp2_with (go_at_call 102; refine C.out.mono ?_; rintro ex w' ⟨rfl, HS⟩)
              have HS2 := Lib.hid HS
              clear HS w3 w4 w1 w2
              exact ⟨⟨kk + 1, e, e2, _, rfl, rfl, hlt2, by show _ = _; have h1 := hc.out; have h2 := he.out; have h3 : (kk + 1) * t = kk * t + t := Nat.succ_mul _ _; omega, he2, hM, HS2⟩, by have := he.out; simp [intOf]; omega⟩
            · have hlz2 : ¬ (e : Int) ≤ (n : Int) := by omega
              obtain ⟨m, w3, hm⟩ : ∃ m : Nat, IntKind.i64.wrap ((c : Int) + s) = (m : Int) ∧ Hid (m = c + s) := ⟨c + s, by rw [wrap_is (by omega)]; omega, rfl⟩
              have hK2 : Hid (n ≤ (kk + 1) * t) := by
                show _ ≤ _
                have h1 := hc.out; have h2 := he.out; have h3 : (kk + 1) * t = kk * t + t := Nat.succ_mul _ _
                omega
              have lD : Hid (D.length = n) := by
                show _ = _
                have h1 := hc.out; have h2 := HN.out; have h3 := ht.out; have h5 := hK.out
                have h6 : 2 * kk * s = kk * t := by rw [h3]; exact twice kk s
                have h7 : (K - 2 * kk) * s = K * s - 2 * kk * s := Nat.sub_mul _ _ _
                have h8 := lP.out
                rw [hP.out] at h8
                rw [HD.out, List.length_append, h8, parts_len_all]
                omega
              by_cases hlt3 : m < n
              · have hlz3 : (m : Int) < (n : Int) := by omega
                obtain ⟨U, V, hUV, lU, lV, sU, sV, hM⟩ : ∃ U V : List α, Hid (D = P ++ U ++ V ++ []) ∧ Hid (U.length = s) ∧ Hid (V.length = n - m) ∧ Hid (Sorted lt U) ∧ Hid (Sorted lt V) ∧ Hid (P ++ merge lt U V ++ [] = parts lt t d 0 (kk + 1)) := by
                  have h1 := hc.out; have h2 := HN.out; have h3 := ht.out; have h4 := he.out; have h5 := hK.out; have h0 := hm.out
                  have h6 : 2 * kk * s = kk * t := by rw [h3]; exact twice kk s
                  have h7 : (2 * kk + 1) * s = 2 * kk * s + s := Nat.succ_mul _ _
                  have h10 : 2 * (kk + 1) * s = 2 * kk * s + 2 * s := by rw [show 2 * (kk + 1) = 2 * kk + 2 by omega, Nat.add_mul]
                  have h8 : 2 * kk + 2 ≤ K := by
                    rcases Nat.lt_or_ge K (2 * kk + 2) with h | h
                    · have h9 : K * s ≤ (2 * kk + 1) * s := Nat.mul_le_mul_right s (by omega)
                      omega
                    · exact h
                  refine ⟨Srt.part lt s d (2 * kk), Srt.part lt s d (2 * kk + 1), ?_, ?_, ?_, part_sorted HWk.out _ _ _, part_sorted HWk.out _ _ _, ?_⟩
                  · show _ = _
                    rw [HD.out, hP.out, parts_two h8, parts_none (K - 2 * (kk + 1)) (2 * (kk + 1)) (by omega)]; simp
                  · show _ = _
                    rw [part_len]; omega
                  · show _ = _
                    rw [part_len]; omega
                  · show _ = _
                    rw [part_two HWk.out, hP.out, parts_snoc, Nat.zero_add, h3, List.append_nil]
                have C := Lib.hid (symMergeK_any HWk.out HL0.out HE.out g cb blk off cap n w0 eg HC.out hmax (s + n) c m n P U V [] wr (by have := lU.out; have := lV.out; omega) (by have := lU.out; omega) (by have := lV.out; omega)
                  (by have := lD.out; rw [hUV.out] at this; exact this) lP.out (by have := lU.out; have := hm.out; omega) (by have := lV.out; have := hm.out; omega) sU.out sV.out (by have := HW.out; rw [hUV.out] at this; exact this))
                go_wp2_with (go_at_call 102; refine C.out.mono ?_; rintro ex w' ⟨rfl, HS⟩)
                have HS2 := Lib.hid HS
                clear HS w3 w1 w2
                exact ⟨⟨t, kk + 1, _, rfl, by have := ht.out; omega, by have := ht.out; omega, by omega, hK2, hM, HS2⟩, by have := ht.out; simp [intOf]; omega⟩
              · have hlz3 : ¬ (m : Int) < (n : Int) := by omega
                have hM : Hid (D = parts lt t d 0 (kk + 1)) := by
                  show _ = _
                  have h1 := hc.out; have h2 := HN.out; have h3 := ht.out; have h5 := hK.out; have h0 := hm.out
                  rw [HD.out, parts_snoc, Nat.zero_add, tail_part (by rw [← h3]; omega) (by omega), h3]
                go_wp2
                clear w3 w1 w2
                exact ⟨⟨t, kk + 1, D, rfl, by have := ht.out; omega, by have := ht.out; omega, by omega, hK2, hM, HW⟩, by have := ht.out; simp [intOf]; omega⟩
        · have hlz : ¬ (s : Int) < (n : Int) := by omega
          have HFD : Hid (D1 = F) := by
            show _ = _
            have h2 := HN.out
            rw [HD.out, hF.out, parts_all (by omega) hK0]
          go_wp2
          go_end0
          exact ⟨rfl, by rw [← HFD.out]; exact HW.out⟩

theorem sortStableK_any {lt : α → α → Bool} (hw : Weak lt) (L : LayK Pg k) (henc : EncK enc k) (g : Nat) (cb : Array Value) (blk off cap n : Nat) (d : List α) (w0 w : World)
    (eg : ∀ args w, (callFunc g args).run Pg w = .ok (.enter g args) w) (hcmp : CmpK Pg g cb enc k lt blk off n w0) (hmax : n < 1000000000000000000)
    (hn : d.length = n) (HS : SwK enc k w0 blk off d w) :
    Calls Pg 53 #[.slice (some ⟨blk, off, none⟩) n cap, .func (.func g) #[] cb] w fun e w' => e = .returned (.tuple #[]) ∧ SwK enc k w0 blk off (isort lt d) w' := by
  have C := Lib.hid (stableK_any hw L henc g cb blk off cap n d w0 w eg hcmp hmax hn HS)
  clear hcmp HS hn hw
  have mixed := L.mixed; have tU := L.tU; have aU := L.aU; have zU := L.zU; have vU := L.vU; have tI := L.tI; have aI := L.aI; have zI := L.zI; have vI := L.vI; have tB := L.tB; have aB := L.aB; have zB := L.zB; have vB := L.vB; have tS := L.tS; have aS := L.aS; have zS := L.zS; have vS := L.vS; have tC := L.tC; have aC := L.aC; have zC := L.zC; have vC := L.vC; have tW := L.tW; have aW := L.aW; have zW := L.zW; have vW := L.vW; have aE := L.aE; have zE := L.zE
  have estb : ∀ args w, (callFunc 90 args).run Pg w = .ok (.enter 90 args) w := enters_of L.stb (by kernel_rfl) rfl
  have HE := Lib.hid henc; have HL0 := Lib.hid L
  clear henc L
  go_enter HL0.out.top, Try.ntmps53
  go_wp2_with (go_at_call 90; refine C.out.mono ?_; rintro e w' ⟨rfl, HS⟩)
  go_end0
  exact ⟨rfl, HS⟩
end Go.Proofs.Ytomdbjmbkfdcmaa

