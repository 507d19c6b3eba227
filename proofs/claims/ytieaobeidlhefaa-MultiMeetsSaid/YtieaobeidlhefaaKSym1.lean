/- slices.symMergeCmpFunc at structs, where one of the two parts holds one alone: it is put where it belongs. -/
import Derived.Test.YtieaobeidlhefaaKRot
import Derived.Shelf.SlSortCmp.QuietGrown
import Derived.Shelf.RegionOpenPlain
import Derived.BigRegion
import Derived.IntWalk
import Derived.Shelf.Abstract
namespace Go.Proofs.Ytieaobeidlhefaa
set_option maxRecDepth 100000
open Go.RowKit Go.Sort Srt
variable {α : Type} {Pg : Program} {enc : α → List Value} {k : Nat}

set_option maxHeartbeats 6400000 in
theorem symMergeK_left {lt : α → α → Bool} (hw : Weak lt) (L : LayK Pg k) (henc : EncK enc k) (g : Nat) (cb : Array Value) (blk off cap a m b n : Nat) (X V Y : List α) (x : α) (w0 w : World)
    (eg : ∀ args w, (callFunc g args).run Pg w = .ok (.enter g args) w) (hcmp : CmpK Pg g cb enc k lt blk off n w0)
    (hn : (X ++ [x] ++ V ++ Y).length = n) (ha : X.length = a) (hm : m = a + 1) (hb : m + V.length = b) (hsv : Sorted lt V) (hmax : n < 1000000000000000000)
    (HS : SwK enc k w0 blk off (X ++ [x] ++ V ++ Y) w) :
    Calls Pg 93 #[.slice (some ⟨blk, off, none⟩) n cap, .int .i64 a, .int .i64 m, .int .i64 b, .func (.func g) #[] cb] w fun e w' => e = .returned (.tuple #[]) ∧ SwK enc k w0 blk off (X ++ merge lt [x] V ++ Y) w' := by
  have hbn : b ≤ n := by simp at hn; omega
  have ham : a < m := by omega
  have hmb : m ≤ b := by omega
  obtain ⟨F, hF⟩ : ∃ F, Hid (F = X ++ merge lt [x] V ++ Y) := ⟨_, rfl⟩
  obtain ⟨D, hD⟩ : ∃ D, Hid (D = X ++ [x] ++ V ++ Y) := ⟨_, rfl⟩
  rw [← hF.out]
  rw [← hD.out] at hn HS
  have hax : D[a]? = some x := by rw [hD.out, show X ++ [x] ++ V ++ Y = X ++ x :: (V ++ Y) by simp]; exact at_mid _ _ _ ha
  have hat : Hid (∀ h, m ≤ h → h < b → ∃ y, V[h - m]? = some y ∧ D[h]? = some y) := by
    intro h h1 h2
    have h3 : h - m < V.length := by omega
    refine ⟨V[h - m]'h3, List.getElem?_eq_getElem h3, ?_⟩
    rw [hD.out, List.getElem?_append_left (by simp; omega), List.getElem?_append_right (by simp; omega), ← List.getElem?_eq_getElem h3]
    congr 1
    simp; omega
  have HN := Lib.hid hn; have HA := Lib.hid ha; have HB := Lib.hid hb; have HC := Lib.hid hcmp; have HW := Lib.hid HS; have HWk := Lib.hid hw; have HSV := Lib.hid hsv; have HAX := Lib.hid hax; have HM := Lib.hid hm
  have w1 : IntKind.i64.wrap ((m : Int) - a) = 1 := by rw [wrap_is (by omega)]; omega
  clear hn ha hb hcmp HS hw hsv hax hm
  have mixed := L.mixed; have tU := L.tU; have aU := L.aU; have zU := L.zU; have vU := L.vU; have tI := L.tI; have aI := L.aI; have zI := L.zI; have vI := L.vI; have tB := L.tB; have aB := L.aB; have zB := L.zB; have vB := L.vB; have tS := L.tS; have aS := L.aS; have zS := L.zS; have vS := L.vS; have tC := L.tC; have aC := L.aC; have zC := L.zC; have vC := L.vC; have tW := L.tW; have aW := L.aW; have zW := L.zW; have vW := L.vW; have aE := L.aE; have zE := L.zE
  have HE := Lib.hid henc; have HL0 := Lib.hid L
  clear henc L
  go_enter HL0.out.sym, Try.ntmps93
  go_wp2_with fail
  go_loopw [10, 11] (fun v u wr => ∃ i j : Nat, v = .int .i64 i ∧ u = .int .i64 j ∧ m ≤ i ∧ i ≤ j ∧ j ≤ b ∧ Hid (∀ v ∈ V.take (i - m), lt v x = true) ∧ Hid (∀ v ∈ V.drop (j - m), lt v x = false) ∧ Hid (SwK enc k w0 blk off D wr)) (fun v u _ => (intOf u).toNat - (intOf v).toNat)
  case atStart => exact ⟨m, b, rfl, rfl, Nat.le_refl _, hmb, Nat.le_refl _, by intro v hv; simp at hv, by intro v hv; have := HB.out; rw [List.drop_of_length_le (by omega)] at hv; simp at hv, HW⟩
  case round =>
    clear HW
    obtain ⟨i, j, rfl, rfl, hmi, hij, hjb, HL, HG, HW⟩ := hrel
    by_cases hlt : i < j
    · have hlz : (i : Int) < (j : Int) := by omega
      obtain ⟨h, hh, hih, hhj⟩ : ∃ h : Nat, ((i : Int) + j) / 2 = h ∧ i ≤ h ∧ h < j := ⟨(i + j) / 2, by omega, by omega, by omega⟩
      have w2 : IntKind.i64.wrap ((i : Int) + j) = (i : Int) + j := wrap_is (by omega)
      obtain ⟨y, hy, hyD⟩ := hat.out h (by omega) (by omega)
      have K : Hid (∀ W, SwK enc k w0 blk off D W → Sem.run Pg (loadCellsFrom ⟨blk, off + h * k, none⟩ 0 k #[]) W = .ok (enc y).toArray W ∧ Sem.run Pg (loadCellsFrom ⟨blk, off + a * k, none⟩ 0 k #[]) W = .ok (enc x).toArray W) := by
        intro W hW
        exact ⟨hW.load HE.out Pg hyD, hW.load HE.out Pg HAX.out⟩
      have HY := Lib.hid hy
      clear hy hyD
      have q1 : (h : Int) < (n : Int) := by omega
      have q2 : (a : Int) < (n : Int) := by omega
      cases hv : lt y x with
      | true =>
        obtain ⟨rr, hr, C⟩ := HC.out.at hv HN.out HW.out
        have l1 : ∀ m os, _ := fun m os => (K.out _ (HW.out.grown m os)).1
        have l2 : ∀ m os, _ := fun m os => (K.out _ (HW.out.grown m os)).2
        go_wp2_with fail
        go_quiet_grown (first | (go_at_fn g; refine Calls.grown_of (C _ _)))
        have S2 := Lib.hid (HW.out.grown nq osq)
        clear C l1 l2
        generalize grow (wr.drewN nq) osq = wq at S2 ⊢
        have HL2 : Hid (∀ v ∈ V.take (h + 1 - m), lt v x = true) := by
          have := all_below HWk.out HSV.out HY.out hv
          rw [show h - m + 1 = h + 1 - m by omega] at this
          exact this
        go_wp2
        exact ⟨⟨h + 1, j, by go_num, rfl, by omega, by omega, hjb, HL2, HG, S2⟩, by simp [intOf]; omega⟩
      | false =>
        obtain ⟨rr, hr, C⟩ := HC.out.at hv HN.out HW.out
        have l1 : ∀ m os, _ := fun m os => (K.out _ (HW.out.grown m os)).1
        have l2 : ∀ m os, _ := fun m os => (K.out _ (HW.out.grown m os)).2
        go_wp2_with fail
        go_quiet_grown (first | (go_at_fn g; refine Calls.grown_of (C _ _)))
        have S2 := Lib.hid (HW.out.grown nq osq)
        clear C l1 l2
        generalize grow (wr.drewN nq) osq = wq at S2 ⊢
        have HG2 := Lib.hid (none_behind HWk.out HSV.out HY.out hv)
        go_wp2
        exact ⟨⟨i, h, rfl, rfl, hmi, hih, by omega, HL, HG2, S2⟩, by simp [intOf]; omega⟩
    · have hlz : ¬ (i : Int) < (j : Int) := by omega
      obtain rfl : i = j := by omega
      have w3 : IntKind.i64.wrap ((i : Int) - 1) = ((i - 1 : Nat) : Int) := by rw [wrap_is (by omega)]; omega
      have H0 : Hid (D = X ++ V.take (a - a) ++ x :: (V.drop (a - a) ++ Y)) := by show _ = _; rw [hD.out]; simp
      have HF : Hid (X ++ V.take (i - 1 - a) ++ x :: (V.drop (i - 1 - a) ++ Y) = F) := by
        show _ = _
        have h1 := HM.out
        rw [hF.out, show i - 1 - a = i - m by omega]
        have := one_merge (V.take (i - m)) (V.drop (i - m)) x HL.out HG.out
        rw [List.take_append_drop] at this
        rw [this]
        simp
      clear HL HG
      go_wp2_with fail
      go_loopw [13] (fun v wr => ∃ (kk : Nat) (D2 : List α), v = .int .i64 kk ∧ a ≤ kk ∧ kk ≤ i - 1 ∧ Hid (D2 = X ++ V.take (kk - a) ++ x :: (V.drop (kk - a) ++ Y)) ∧ Hid (SwK enc k w0 blk off D2 wr)) (fun v _ => i - 1 - (intOf v).toNat)
      case atStart => exact ⟨a, D, rfl, Nat.le_refl _, by omega, H0, HW⟩
      case round =>
        clear HW H0
        obtain ⟨kk, D2, rfl, hak, hki, HD2, HW⟩ := hrel
        by_cases hlt2 : kk < i - 1
        · have hlz2 : (kk : Int) < ((i - 1 : Nat) : Int) := by omega
          obtain ⟨y, P, Q, hP, hp, hD3, hDl⟩ : ∃ y P Q, Hid (D2 = P ++ x :: y :: Q) ∧ Hid (P.length = kk) ∧ Hid (P ++ y :: x :: Q = X ++ V.take (kk + 1 - a) ++ x :: (V.drop (kk + 1 - a) ++ Y)) ∧ Hid (D2.length = n) := by
            have h1 := HA.out; have h2 := HB.out; have h3 := HM.out
            have hkk : kk - a < V.length := by omega
            refine ⟨V[kk - a]'hkk, X ++ V.take (kk - a), V.drop (kk - a + 1) ++ Y, ?_, ?_, ?_, ?_⟩
            · show _ = _
              rw [HD2.out, List.drop_eq_getElem_cons hkk, List.cons_append]
            · show _ = _
              rw [List.length_append, List.length_take]; omega
            · show _ = _
              rw [show kk + 1 - a = kk - a + 1 by omega, List.take_succ_eq_append_getElem hkk]
              simp only [List.append_assoc, List.cons_append, List.nil_append]
            · show _ = _
              rw [HD2.out, ← HN.out, hD.out]
              simp only [List.length_append, List.length_take, List.length_drop, List.length_cons, List.length_nil]; omega
          have l1 := HW.out.drew.load HE.out Pg (j := kk) (x := x) (by rw [hP.out]; exact at_mid _ _ _ hp.out)
          have l2 := HW.out.drew.load HE.out Pg (j := kk + 1) (x := y) (by rw [hP.out, show P ++ x :: y :: Q = (P ++ [x]) ++ y :: Q by simp]; exact at_mid _ _ _ (by have := hp.out; simp; omega))
          have lt1 : kk < D2.length := by rw [hDl.out]; omega
          have lt2 : kk + 1 < D2.length := by rw [hDl.out]; omega
          have s1 := HW.out.drew.store HE.out Pg lt1 y
          have s2 := (HW.out.drew.set HE.out lt1 y).store HE.out Pg (j := (kk + 1)) (by rw [List.length_set]; exact lt2) x
          have n1 : (enc x).length = k := HE.out.len _
          have n2 : (enc y).length = k := HE.out.len _
          have S3 : Hid (SwK enc k w0 blk off ((D2.set kk y).set (kk + 1) x) _) := HW.out.swap HE.out lt1 lt2
          have HD4 : Hid ((D2.set kk y).set (kk + 1) x = X ++ V.take (kk + 1 - a) ++ x :: (V.drop (kk + 1 - a) ++ Y)) := by
            show _ = _
            rw [← hD3.out, hP.out, ← hp.out, swap_adj']
          clear lt1 lt2
          have q3 : (kk : Int) < (n : Int) := by omega
          have q4 : (kk : Int) + 1 < (n : Int) := by omega
          have q5 : IntKind.i64.wrap ((kk : Int) + 1) = (kk : Int) + 1 := wrap_is (by omega)
          have q6 : (0 : Int) ≤ (kk : Int) + 1 := by omega
          have q7 : ((kk : Int) + 1).toNat = kk + 1 := by omega
          obtain ⟨cx, hcx⟩ : ∃ c, c = enc x := ⟨_, rfl⟩
          obtain ⟨cy, hcy⟩ : ∃ c, c = enc y := ⟨_, rfl⟩
          rw [← hcx] at l1 s2 n1 S3
          rw [← hcy] at l2 s1 s2 n2 S3
          clear hcx hcy
          go_wp2_with fail
          go_big_region_o
          all_goals go_wp2
          exact ⟨⟨kk + 1, _, by go_num, by omega, by omega, HD4, S3⟩, by simp [intOf]; omega⟩
        · have hlz2 : ¬ (kk : Int) < ((i - 1 : Nat) : Int) := by omega
          obtain rfl : kk = i - 1 := by omega
          go_wp2
          refine bodyPost_ret (results_none rfl _ _ _) rfl ?_
          exact ⟨rfl, by rw [← HF.out, ← HD2.out]; exact HW.out⟩
end Go.Proofs.Ytieaobeidlhefaa
