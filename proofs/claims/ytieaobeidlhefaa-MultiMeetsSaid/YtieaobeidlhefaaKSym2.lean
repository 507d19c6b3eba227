/- slices.symMergeCmpFunc at structs, where the second part holds one alone. -/
import Derived.Test.YtieaobeidlhefaaKSym1
import Derived.Shelf.SlSortCmp.QuietGrown
import Derived.Shelf.RegionOpenPlain
import Derived.BigRegion
import Derived.IntWalk
import Derived.Shelf.Abstract
namespace Go.Proofs.Ytieaobeidlhefaa
set_option maxRecDepth 100000
open Go.RowKit Go.Sort Srt
variable {α : Type} {Pg : Program} {enc : α → List Value} {k : Nat}

set_option maxHeartbeats 6400000 in
theorem symMergeK_right {lt : α → α → Bool} (hw : Weak lt) (L : LayK Pg k) (henc : EncK enc k) (g : Nat) (cb : Array Value) (blk off cap a m b n : Nat) (X U Y : List α) (x : α) (w0 w : World)
    (eg : ∀ args w, (callFunc g args).run Pg w = .ok (.enter g args) w) (hcmp : CmpK Pg g cb enc k lt blk off n w0)
    (hn : (X ++ U ++ [x] ++ Y).length = n) (ha : X.length = a) (hm : a + U.length = m) (hb : b = m + 1) (hu : 2 ≤ U.length) (hsu : Sorted lt U) (hmax : n < 1000000000000000000)
    (HS : SwK enc k w0 blk off (X ++ U ++ [x] ++ Y) w) :
    Calls Pg 93 #[.slice (some ⟨blk, off, none⟩) n cap, .int .i64 a, .int .i64 m, .int .i64 b, .func (.func g) #[] cb] w fun e w' => e = .returned (.tuple #[]) ∧ SwK enc k w0 blk off (X ++ merge lt U [x] ++ Y) w' := by
  have hbn : b ≤ n := by simp at hn; omega
  have ham : a + 2 ≤ m := by omega
  have hmb : m < b := by omega
  obtain ⟨F, hF⟩ : ∃ F, Hid (F = X ++ merge lt U [x] ++ Y) := ⟨_, rfl⟩
  obtain ⟨D, hD⟩ : ∃ D, Hid (D = X ++ U ++ [x] ++ Y) := ⟨_, rfl⟩
  rw [← hF.out]
  rw [← hD.out] at hn HS
  have hax : D[m]? = some x := by rw [hD.out, show X ++ U ++ [x] ++ Y = (X ++ U) ++ x :: Y by simp]; exact at_mid _ _ _ (by rw [List.length_append]; omega)
  have hat : Hid (∀ h, a ≤ h → h < m → ∃ y, U[h - a]? = some y ∧ D[h]? = some y) := by
    intro h h1 h2
    have h3 : h - a < U.length := by omega
    refine ⟨U[h - a]'h3, List.getElem?_eq_getElem h3, ?_⟩
    rw [hD.out, List.append_assoc, List.append_assoc, List.getElem?_append_right (by omega), List.getElem?_append_left (by omega), ← List.getElem?_eq_getElem h3, ha]
  have HN := Lib.hid hn; have HA := Lib.hid ha; have HB := Lib.hid hb; have HC := Lib.hid hcmp; have HW := Lib.hid HS; have HWk := Lib.hid hw; have HSU := Lib.hid hsu; have HAX := Lib.hid hax; have HM := Lib.hid hm
  obtain ⟨e, w1, he⟩ : ∃ e : Nat, IntKind.i64.wrap ((m : Int) - a) = (e : Int) ∧ ¬ (e : Int) = 1 := ⟨m - a, by rw [wrap_is (by omega)]; omega, by omega⟩
  have he2 : ((e : Int) == 1) = false := by rw [beq_eq_false_iff_ne]; exact he
  have w2 : IntKind.i64.wrap ((b : Int) - m) = 1 := by rw [wrap_is (by omega)]; omega
  clear hn ha hb hcmp HS hw hsu hax hm hu
  have mixed := L.mixed; have tU := L.tU; have aU := L.aU; have zU := L.zU; have vU := L.vU; have tI := L.tI; have aI := L.aI; have zI := L.zI; have vI := L.vI; have tB := L.tB; have aB := L.aB; have zB := L.zB; have vB := L.vB; have tS := L.tS; have aS := L.aS; have zS := L.zS; have vS := L.vS; have tC := L.tC; have aC := L.aC; have zC := L.zC; have vC := L.vC; have tW := L.tW; have aW := L.aW; have zW := L.zW; have vW := L.vW; have aE := L.aE; have zE := L.zE
  have HE := Lib.hid henc; have HL0 := Lib.hid L
  clear henc L
  go_enter HL0.out.sym, Try.ntmps93
  go_wp2_with fail
  go_loopw [14, 15] (fun v u wr => ∃ i j : Nat, v = .int .i64 i ∧ u = .int .i64 j ∧ a ≤ i ∧ i ≤ j ∧ j ≤ m ∧ Hid (∀ v ∈ U.take (i - a), lt x v = false) ∧ Hid (∀ v ∈ U.drop (j - a), lt x v = true) ∧ Hid (SwK enc k w0 blk off D wr)) (fun v u _ => (intOf u).toNat - (intOf v).toNat)
  case atStart => exact ⟨a, m, rfl, rfl, Nat.le_refl _, by omega, Nat.le_refl _, by intro v hv; simp at hv, by intro v hv; have := HM.out; rw [List.drop_of_length_le (by omega)] at hv; simp at hv, HW⟩
  case round =>
    clear HW
    obtain ⟨i, j, rfl, rfl, hai, hij, hjm, HL, HG, HW⟩ := hrel
    by_cases hlt : i < j
    · have hlz : (i : Int) < (j : Int) := by omega
      obtain ⟨h, hh, hih, hhj⟩ : ∃ h : Nat, ((i : Int) + j) / 2 = h ∧ i ≤ h ∧ h < j := ⟨(i + j) / 2, by omega, by omega, by omega⟩
      have w3 : IntKind.i64.wrap ((i : Int) + j) = (i : Int) + j := wrap_is (by omega)
      obtain ⟨y, hy, hyD⟩ := hat.out h (by omega) (by omega)
      have K : Hid (∀ W, SwK enc k w0 blk off D W → Sem.run Pg (loadCellsFrom ⟨blk, off + m * k, none⟩ 0 k #[]) W = .ok (enc x).toArray W ∧ Sem.run Pg (loadCellsFrom ⟨blk, off + h * k, none⟩ 0 k #[]) W = .ok (enc y).toArray W) := by
        intro W hW
        exact ⟨hW.load HE.out Pg HAX.out, hW.load HE.out Pg hyD⟩
      have HY := Lib.hid hy
      clear hy hyD
      have q1 : (h : Int) < (n : Int) := by omega
      have q2 : (m : Int) < (n : Int) := by omega
      cases hv : lt x y with
      | true =>
        obtain ⟨rr, hr, C⟩ := HC.out.at hv HN.out HW.out
        have l1 : ∀ m os, _ := fun m os => (K.out _ (HW.out.grown m os)).1
        have l2 : ∀ m os, _ := fun m os => (K.out _ (HW.out.grown m os)).2
        go_wp2_with fail
        go_quiet_grown (first | (go_at_fn g; refine Calls.grown_of (C _ _)))
        have S2 := Lib.hid (HW.out.grown nq osq)
        clear C l1 l2
        generalize grow (wr.drewN nq) osq = wq at S2 ⊢
        have HG2 := Lib.hid (all_behind HWk.out HSU.out HY.out hv)
        go_wp2
        exact ⟨⟨i, h, rfl, rfl, hai, hih, by omega, HL, HG2, S2⟩, by simp [intOf]; omega⟩
      | false =>
        obtain ⟨rr, hr, C⟩ := HC.out.at hv HN.out HW.out
        have l1 : ∀ m os, _ := fun m os => (K.out _ (HW.out.grown m os)).1
        have l2 : ∀ m os, _ := fun m os => (K.out _ (HW.out.grown m os)).2
        go_wp2_with fail
        go_quiet_grown (first | (go_at_fn g; refine Calls.grown_of (C _ _)))
        have S2 := Lib.hid (HW.out.grown nq osq)
        clear C l1 l2
        generalize grow (wr.drewN nq) osq = wq at S2 ⊢
        have HL2 : Hid (∀ v ∈ U.take (h + 1 - a), lt x v = false) := by
          have := none_upto HWk.out HSU.out HY.out hv
          rw [show h - a + 1 = h + 1 - a by omega] at this
          exact this
        go_wp2
        exact ⟨⟨h + 1, j, by go_num, rfl, by omega, by omega, hjm, HL2, HG, S2⟩, by simp [intOf]; omega⟩
    · have hlz : ¬ (i : Int) < (j : Int) := by omega
      obtain rfl : i = j := by omega
      have H0 : Hid (D = X ++ U.take (m - a) ++ x :: (U.drop (m - a) ++ Y)) := by
        show _ = _
        have h1 := HM.out
        rw [hD.out, List.take_of_length_le (by omega), List.drop_of_length_le (by omega)]; simp
      have HF : Hid (X ++ U.take (i - a) ++ x :: (U.drop (i - a) ++ Y) = F) := by
        show _ = _
        have := merge_one (U.take (i - a)) (U.drop (i - a)) x HL.out HG.out
        rw [List.take_append_drop] at this
        rw [hF.out, this]
        simp
      clear HL HG
      go_wp2_with fail
      go_loopw [17] (fun v wr => ∃ (kk : Nat) (D2 : List α), v = .int .i64 kk ∧ i ≤ kk ∧ kk ≤ m ∧ Hid (D2 = X ++ U.take (kk - a) ++ x :: (U.drop (kk - a) ++ Y)) ∧ Hid (SwK enc k w0 blk off D2 wr)) (fun v _ => (intOf v).toNat)
      case atStart => exact ⟨m, D, rfl, by omega, Nat.le_refl _, H0, HW⟩
      case round =>
        clear HW H0
        obtain ⟨kk, D2, rfl, hik, hkm, HD2, HW⟩ := hrel
        by_cases hlt2 : i < kk
        · have hlz2 : (i : Int) < (kk : Int) := by omega
          obtain ⟨k1, hk1⟩ : ∃ k1, Hid (kk = k1 + 1) := ⟨kk - 1, by show _ = _; omega⟩
          obtain ⟨y, P, Q, hP, hp, hD3, hDl⟩ : ∃ y P Q, Hid (D2 = P ++ y :: x :: Q) ∧ Hid (P.length = k1) ∧ Hid (P ++ x :: y :: Q = X ++ U.take (k1 - a) ++ x :: (U.drop (k1 - a) ++ Y)) ∧ Hid (D2.length = n) := by
            have h1 := HA.out; have h2 := HM.out; have h3 := hk1.out
            have hkk : k1 - a < U.length := by omega
            refine ⟨U[k1 - a]'hkk, X ++ U.take (k1 - a), U.drop (k1 - a + 1) ++ Y, ?_, ?_, ?_, ?_⟩
            · show _ = _
              rw [HD2.out, show kk - a = k1 - a + 1 by omega, List.take_succ_eq_append_getElem hkk]
              simp only [List.append_assoc, List.cons_append, List.nil_append]
            · show _ = _
              rw [List.length_append, List.length_take]; omega
            · show _ = _
              rw [List.drop_eq_getElem_cons hkk, List.cons_append]
            · show _ = _
              rw [HD2.out, ← HN.out, hD.out]
              simp only [List.length_append, List.length_take, List.length_drop, List.length_cons, List.length_nil]; omega
          have l1 := HW.out.drew.load HE.out Pg (j := kk) (x := x) (by rw [hP.out, show P ++ y :: x :: Q = (P ++ [y]) ++ x :: Q by simp]; exact at_mid _ _ _ (by have := hp.out; have := hk1.out; simp; omega))
          have l2 := HW.out.drew.load HE.out Pg (j := k1) (x := y) (by rw [hP.out]; exact at_mid _ _ _ hp.out)
          have lt1 : kk < D2.length := by rw [hDl.out]; omega
          have lt2 : k1 < D2.length := by rw [hDl.out]; have := hk1.out; omega
          have s1 := HW.out.drew.store HE.out Pg lt1 y
          have s2 := (HW.out.drew.set HE.out lt1 y).store HE.out Pg (j := k1) (by rw [List.length_set]; exact lt2) x
          have n1 : (enc x).length = k := HE.out.len _
          have n2 : (enc y).length = k := HE.out.len _
          have S3 : Hid (SwK enc k w0 blk off ((D2.set kk y).set k1 x) _) := HW.out.swap HE.out lt1 lt2
          have HD4 : Hid ((D2.set kk y).set k1 x = X ++ U.take (k1 - a) ++ x :: (U.drop (k1 - a) ++ Y)) := by
            show _ = _
            rw [← hD3.out, hP.out, hk1.out, ← hp.out, swap_adj]
          obtain ⟨D4, hD4⟩ : ∃ D4, D4 = (D2.set kk y).set k1 x := ⟨_, rfl⟩
          rw [← hD4] at HD4 S3
          clear hD4 lt1 lt2
          have q3 : (kk : Int) < (n : Int) := by omega
          have q4 : (kk : Int) - 1 < (n : Int) := by omega
          have q5 : IntKind.i64.wrap ((kk : Int) - 1) = (kk : Int) - 1 := wrap_is (by omega)
          have q6 : (0 : Int) ≤ (kk : Int) - 1 := by omega
          have q7 : ((kk : Int) - 1).toNat = k1 := by have := hk1.out; omega
          have q8 : 0 < kk := by omega
          have q9 : kk ≤ n := by omega
          have q10 : (1 : Int) ≤ (kk : Int) := by omega
          obtain ⟨cx, hcx⟩ : ∃ c, c = enc x := ⟨_, rfl⟩
          obtain ⟨cy, hcy⟩ : ∃ c, c = enc y := ⟨_, rfl⟩
          rw [← hcx] at l1 s2 n1 S3
          rw [← hcy] at l2 s1 s2 n2 S3
          clear hcx hcy
          go_wp2_with fail
          go_big_region_o
          all_goals go_wp2
          exact ⟨⟨k1, D4, by have := hk1.out; go_num, by have := hk1.out; omega, by have := hk1.out; omega, HD4, S3⟩, by have := hk1.out; simp [intOf]; omega⟩
        · have hlz2 : ¬ (i : Int) < (kk : Int) := by omega
          obtain rfl : kk = i := by omega
          go_wp2
          refine bodyPost_ret (results_none rfl _ _ _) rfl ?_
          exact ⟨rfl, by rw [← HF.out, ← HD2.out]; exact HW.out⟩
end Go.Proofs.Ytieaobeidlhefaa
