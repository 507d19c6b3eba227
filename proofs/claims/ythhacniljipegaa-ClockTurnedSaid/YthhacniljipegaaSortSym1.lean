/- slices.symMergeCmpFunc at numbers, where one of the two parts holds one alone: it is put where it belongs. -/
import Derived.Test.YthhacniljipegaaSortRot
namespace Go.Proofs.Ythhacniljipegaa
set_option maxRecDepth 100000
open Go.RowKit Srt
variable {α : Type}

theorem all_below {lt : α → α → Bool} (hw : Weak lt) {V : List α} (hs : Sorted lt V) {h : Nat} {y x : α} (hy : V[h]? = some y) (hl : lt y x = true) : ∀ v ∈ V.take (h + 1), lt v x = true := by
  obtain ⟨hh, e⟩ := List.getElem?_eq_some_iff.1 hy
  rw [List.take_succ_eq_append_getElem hh, e]
  intro v hv
  rcases List.mem_append.1 hv with hv | hv
  · cases hq : lt v x with
    | true => rfl
    | false =>
      have h1 : lt y v = false := by
        rw [← List.take_append_drop h V, List.drop_eq_getElem_cons hh, e] at hs
        exact (Sorted.split hs).2.2 v hv y (by simp)
      have := hw.neg _ _ _ h1 hq
      rw [hl] at this; cases this
  · simp at hv; subst hv; exact hl

theorem none_behind {lt : α → α → Bool} (hw : Weak lt) {V : List α} (hs : Sorted lt V) {h : Nat} {y x : α} (hy : V[h]? = some y) (hl : lt y x = false) : ∀ v ∈ V.drop h, lt v x = false := by
  obtain ⟨hh, e⟩ := List.getElem?_eq_some_iff.1 hy
  rw [List.drop_eq_getElem_cons hh, e]
  intro v hv
  rcases List.mem_cons.1 hv with rfl | hv
  · exact hl
  · have h1 : lt v y = false := by
      rw [← List.take_append_drop (h + 1) V, List.take_succ_eq_append_getElem hh, e] at hs
      exact (Sorted.split hs).2.2 y (by simp) v hv
    exact hw.neg _ _ _ h1 hl

/-- the same, told of the one -/
theorem none_upto {lt : α → α → Bool} (hw : Weak lt) {U : List α} (hs : Sorted lt U) {h : Nat} {y x : α} (hy : U[h]? = some y) (hl : lt x y = false) : ∀ u ∈ U.take (h + 1), lt x u = false := by
  obtain ⟨hh, e⟩ := List.getElem?_eq_some_iff.1 hy
  rw [List.take_succ_eq_append_getElem hh, e]
  intro v hv
  rcases List.mem_append.1 hv with hv | hv
  · have h1 : lt y v = false := by
      rw [← List.take_append_drop h U, List.drop_eq_getElem_cons hh, e] at hs
      exact (Sorted.split hs).2.2 v hv y (by simp)
    exact hw.neg _ _ _ hl h1
  · simp at hv; subst hv; exact hl
theorem all_behind {lt : α → α → Bool} (hw : Weak lt) {U : List α} (hs : Sorted lt U) {h : Nat} {y x : α} (hy : U[h]? = some y) (hl : lt x y = true) : ∀ u ∈ U.drop h, lt x u = true := by
  obtain ⟨hh, e⟩ := List.getElem?_eq_some_iff.1 hy
  rw [List.drop_eq_getElem_cons hh, e]
  intro v hv
  rcases List.mem_cons.1 hv with rfl | hv
  · exact hl
  · cases hq : lt x v with
    | true => rfl
    | false =>
      have h1 : lt v y = false := by
        rw [← List.take_append_drop (h + 1) U, List.take_succ_eq_append_getElem hh, e] at hs
        exact (Sorted.split hs).2.2 y (by simp) v hv
      have := hw.neg _ _ _ hq h1
      rw [hl] at this; cases this

set_option maxHeartbeats 6400000 in
theorem symMerge_left {num : α → Int} {lt : α → α → Bool} (hw : Weak lt) (g : Nat) (cb : Array Value) (blk off cap a m b n : Nat) (X V Y : List α) (x : α) (w0 w : World)
    (eg : ∀ args w, (callFunc g args).run Try.prog w = .ok (.enter g args) w) (hcmp : CmpB Try.prog g cb num lt blk off n w0)
    (hn : (X ++ [x] ++ V ++ Y).length = n) (ha : X.length = a) (hm : m = a + 1) (hb : m + V.length = b) (hsv : Sorted lt V) (hmax : n < 1000000000000000000)
    (HS : Sw num w0 blk off (X ++ [x] ++ V ++ Y) w) :
    Calls Try.prog 27 #[.slice (some ⟨blk, off, none⟩) n cap, .int .i64 a, .int .i64 m, .int .i64 b, .func (.func g) #[] cb] w fun e w' => e = .returned (.tuple #[]) ∧ Sw num w0 blk off (X ++ merge lt [x] V ++ Y) w' := by
  have hbn : b ≤ n := by simp at hn; omega
  have ham : a < m := by omega
  have hmb : m ≤ b := by omega
  obtain ⟨F, hF⟩ : ∃ F, Hid (F = X ++ merge lt [x] V ++ Y) := ⟨_, rfl⟩
  obtain ⟨D, hD⟩ : ∃ D, Hid (D = X ++ [x] ++ V ++ Y) := ⟨_, rfl⟩
  rw [← hF.out]
  rw [← hD.out] at hn HS
  have hax : D[a]? = some x := by rw [hD.out, show X ++ [x] ++ V ++ Y = X ++ x :: (V ++ Y) by simp]; exact at_mid _ _ _ ha
  have hat : Hid (∀ h, m ≤ h → h < b → ∃ y, V[h - m]? = some y ∧ D[h]? = some y) := by
    intro h h1 h2
    have h3 : h - m < V.length := by omega
    refine ⟨V[h - m]'h3, List.getElem?_eq_getElem h3, ?_⟩
    rw [hD.out, List.getElem?_append_left (by simp; omega), List.getElem?_append_right (by simp; omega), ← List.getElem?_eq_getElem h3]
    congr 1
    simp; omega
  have HN := Lib.hid hn; have HA := Lib.hid ha; have HB := Lib.hid hb; have HC := Lib.hid hcmp; have HW := Lib.hid HS; have HWk := Lib.hid hw; have HSV := Lib.hid hsv; have HAX := Lib.hid hax; have HM := Lib.hid hm
  have w1 : IntKind.i64.wrap ((m : Int) - a) = 1 := by rw [wrap_is (by omega)]; omega
  clear hn ha hb hcmp HS hw hsv hax hm
  go_enter Try.func27, Try.ntmps27
  go_wp2_with fail
  go_loopw [10, 11] (fun v u wr => ∃ i j : Nat, v = .int .i64 i ∧ u = .int .i64 j ∧ m ≤ i ∧ i ≤ j ∧ j ≤ b ∧ Hid (∀ v ∈ V.take (i - m), lt v x = true) ∧ Hid (∀ v ∈ V.drop (j - m), lt v x = false) ∧ Hid (Sw num w0 blk off D wr)) (fun v u _ => (intOf u).toNat - (intOf v).toNat)
  case atStart => exact ⟨m, b, rfl, rfl, Nat.le_refl _, hmb, Nat.le_refl _, by intro v hv; simp at hv, by intro v hv; have := HB.out; rw [List.drop_of_length_le (by omega)] at hv; simp at hv, HW⟩
  case round =>
    clear HW
    obtain ⟨i, j, rfl, rfl, hmi, hij, hjb, HL, HG, HW⟩ := hrel
    by_cases hlt : i < j
    · have hlz : (i : Int) < (j : Int) := by omega
      obtain ⟨h, hh, hih, hhj⟩ : ∃ h : Nat, ((i : Int) + j) / 2 = h ∧ i ≤ h ∧ h < j := ⟨(i + j) / 2, by omega, by omega, by omega⟩
      have w2 : IntKind.i64.wrap ((i : Int) + j) = (i : Int) + j := wrap_is (by omega)
      obtain ⟨y, hy, hyD⟩ := hat.out h (by omega) (by omega)
      have K : Hid (∀ W, Sw num w0 blk off D W → Sw num w0 blk off D W ∧ W.cell? ⟨blk, off + h, none⟩ = some (.int .i64 (num y)) ∧ W.cell? ⟨blk, off + a, none⟩ = some (.int .i64 (num x))) := by
        intro W hW
        exact ⟨hW, hW.cell h y hyD, hW.cell a x HAX.out⟩
      have HY := Lib.hid hy
      clear hy hyD
      have q1 : (h : Int) < (n : Int) := by omega
      have q2 : (a : Int) < (n : Int) := by omega
      cases hv : lt y x with
      | true =>
        have C := Lib.hid (HC.out.at hv HN.out)
        have hs0 := HW.out.drew
        go_wp2_with fail
        go_region_held3 (fun W => Sw num w0 blk off D W ∧ W.cell? ⟨blk, off + h, none⟩ = some (.int .i64 (num y)) ∧ W.cell? ⟨blk, off + a, none⟩ = some (.int .i64 (num x)))
          (first
            | (refine K.out _ ?_; go_split_ands; exact Sw.below (by assumption) bb)
            | (refine K.out _ ?_; go_split_ands; assumption)
            | (refine K.out _ ?_; go_split_ands; exact Sw.drew (by assumption)))
          (first
            | (go_at_fn g; go_split_ands; refine (C.out _ (by assumption)).mono ?_; rintro e wx ⟨r, rfl, hr, bb⟩))
        have S2 := Lib.hid (Sw.below (by assumption : Sw num w0 blk off D wr.drew) bb)
        clear hs0
        have HL2 : Hid (∀ v ∈ V.take (h + 1 - m), lt v x = true) := by
          have := all_below HWk.out HSV.out HY.out hv
          rw [show h - m + 1 = h + 1 - m by omega] at this
          exact this
        go_wp2
        exact ⟨⟨h + 1, j, by go_num, rfl, by omega, by omega, hjb, HL2, HG, S2⟩, by simp [intOf]; omega⟩
      | false =>
        have C := Lib.hid (HC.out.at hv HN.out)
        have hs0 := HW.out.drew
        go_wp2_with fail
        go_region_held3 (fun W => Sw num w0 blk off D W ∧ W.cell? ⟨blk, off + h, none⟩ = some (.int .i64 (num y)) ∧ W.cell? ⟨blk, off + a, none⟩ = some (.int .i64 (num x)))
          (first
            | (refine K.out _ ?_; go_split_ands; exact Sw.below (by assumption) bb)
            | (refine K.out _ ?_; go_split_ands; assumption)
            | (refine K.out _ ?_; go_split_ands; exact Sw.drew (by assumption)))
          (first
            | (go_at_fn g; go_split_ands; refine (C.out _ (by assumption)).mono ?_; rintro e wx ⟨r, rfl, hr, bb⟩))
        have S2 := Lib.hid (Sw.below (by assumption : Sw num w0 blk off D wr.drew) bb)
        clear hs0
        have HG2 := Lib.hid (none_behind HWk.out HSV.out HY.out hv)
        go_wp2
        exact ⟨⟨i, h, rfl, rfl, hmi, hih, by omega, HL, HG2, S2⟩, by simp [intOf]; omega⟩
    · have hlz : ¬ (i : Int) < (j : Int) := by omega
      obtain rfl : i = j := by omega
      have w3 : IntKind.i64.wrap ((i : Int) - 1) = ((i - 1 : Nat) : Int) := by rw [wrap_is (by omega)]; omega
      have H0 : Hid (D = X ++ V.take (a - a) ++ x :: (V.drop (a - a) ++ Y)) := by show _ = _; rw [hD.out]; simp
      have HF : Hid (X ++ V.take (i - 1 - a) ++ x :: (V.drop (i - 1 - a) ++ Y) = F) := by
        show _ = _
        have h1 := HM.out
        rw [hF.out, show i - 1 - a = i - m by omega]
        have := one_merge (V.take (i - m)) (V.drop (i - m)) x HL.out HG.out
        rw [List.take_append_drop] at this
        rw [this]
        simp
      clear HL HG
      go_wp2_with fail
      go_loopw [13] (fun v wr => ∃ (k : Nat) (D2 : List α), v = .int .i64 k ∧ a ≤ k ∧ k ≤ i - 1 ∧ Hid (D2 = X ++ V.take (k - a) ++ x :: (V.drop (k - a) ++ Y)) ∧ Hid (Sw num w0 blk off D2 wr)) (fun v _ => i - 1 - (intOf v).toNat)
      case atStart => exact ⟨a, D, rfl, Nat.le_refl _, by omega, H0, HW⟩
      case round =>
        clear HW H0
        obtain ⟨k, D2, rfl, hak, hki, HD2, HW⟩ := hrel
        by_cases hlt2 : k < i - 1
        · have hlz2 : (k : Int) < ((i - 1 : Nat) : Int) := by omega
          obtain ⟨y, P, Q, hP, hp, hD3, hDl⟩ : ∃ y P Q, Hid (D2 = P ++ x :: y :: Q) ∧ Hid (P.length = k) ∧ Hid (P ++ y :: x :: Q = X ++ V.take (k + 1 - a) ++ x :: (V.drop (k + 1 - a) ++ Y)) ∧ Hid (D2.length = n) := by
            have h1 := HA.out; have h2 := HB.out; have h3 := HM.out
            have hk : k - a < V.length := by omega
            refine ⟨V[k - a]'hk, X ++ V.take (k - a), V.drop (k - a + 1) ++ Y, ?_, ?_, ?_, ?_⟩
            · show _ = _
              rw [HD2.out, List.drop_eq_getElem_cons hk, List.cons_append]
            · show _ = _
              rw [List.length_append, List.length_take]; omega
            · show _ = _
              rw [show k + 1 - a = k - a + 1 by omega, List.take_succ_eq_append_getElem hk]
              simp only [List.append_assoc, List.cons_append, List.nil_append]
            · show _ = _
              rw [HD2.out, ← HN.out, hD.out]
              simp only [List.length_append, List.length_take, List.length_drop, List.length_cons, List.length_nil]; omega
          have c1 := HW.out.cell k x (by rw [hP.out]; exact at_mid _ _ _ hp.out)
          have c2 := HW.out.cell (k + 1) y (by rw [hP.out, show P ++ x :: y :: Q = (P ++ [x]) ++ y :: Q by simp]; exact at_mid _ _ _ (by have := hp.out; simp; omega))
          have l1 : k < D2.length := by rw [hDl.out]; omega
          have l2 : k + 1 < D2.length := by rw [hDl.out]; omega
          have f1 := HW.out.frozen k l1
          have f2 := HW.out.frozen (k + 1) l2
          obtain ⟨c3, hc3⟩ := HW.out.second l1 l2 (.int .i64 (num y))
          have f3 := HW.out.frozen2 (i := k) l2 (.int .i64 (num y))
          have S3 := Lib.hid (HW.out.swap (x := x) (y := y) l1 l2)
          have HD4 : Hid ((D2.set k y).set (k + 1) x = X ++ V.take (k + 1 - a) ++ x :: (V.drop (k + 1 - a) ++ Y)) := by
            show _ = _
            rw [← hD3.out, hP.out, ← hp.out, swap_adj']
          clear l1 l2
          have q3 : (k : Int) < (n : Int) := by omega
          have q4 : (k : Int) + 1 < (n : Int) := by omega
          have q5 : IntKind.i64.wrap ((k : Int) + 1) = (k : Int) + 1 := wrap_is (by omega)
          have q6 : (0 : Int) ≤ (k : Int) + 1 := by omega
          have q7 : ((k : Int) + 1).toNat = k + 1 := by omega
          go_wp2_with fail
          go_big_region
          go_wp2
          exact ⟨⟨k + 1, _, by go_num, by omega, by omega, HD4, S3⟩, by simp [intOf]; omega⟩
        · have hlz2 : ¬ (k : Int) < ((i - 1 : Nat) : Int) := by omega
          obtain rfl : k = i - 1 := by omega
          go_wp2
          refine bodyPost_ret (results_none rfl _ _ _) rfl ?_
          exact ⟨rfl, by rw [← HF.out, ← HD2.out]; exact HW.out⟩
end Go.Proofs.Ythhacniljipegaa
