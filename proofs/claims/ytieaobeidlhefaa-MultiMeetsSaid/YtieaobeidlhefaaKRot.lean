/- slices.swapRangeCmpFunc and rotateCmpFunc at structs: parts of what is sorted change places. -/
import Derived.Test.YtieaobeidlhefaaKIns
import Derived.Shelf.SlSortCmp.QuietGrown
import Derived.Shelf.RegionOpenPlain
import Derived.BigRegion
import Derived.IntWalk
import Derived.Shelf.Abstract
namespace Go.Proofs.Ytieaobeidlhefaa
set_option maxRecDepth 100000
open Go.RowKit Go.Sort Srt
variable {α : Type} {Pg : Program} {enc : α → List Value} {k : Nat}

set_option maxHeartbeats 3200000 in
theorem swapRangeK_any (L : LayK Pg k) (henc : EncK enc k) (g : Nat) (cb : Array Value) (blk off cap a b m n : Nat) (X U Y V Z : List α) (w0 w : World)
    (hn : (X ++ U ++ Y ++ V ++ Z).length = n) (ha : X.length = a) (hb : X.length + U.length + Y.length = b) (hu : U.length = m) (hv : V.length = m) (hmax : n < 1000000000000000000)
    (HS : SwK enc k w0 blk off (X ++ U ++ Y ++ V ++ Z) w) :
    Calls Pg 111 #[.slice (some ⟨blk, off, none⟩) n cap, .int .i64 a, .int .i64 b, .int .i64 m, .func (.func g) #[] cb] w fun e w' => e = .returned (.tuple #[]) ∧ SwK enc k w0 blk off (X ++ V ++ Y ++ U ++ Z) w' := by
  have hbn : b + m ≤ n := by simp at hn; omega
  have hab : a + m ≤ b := by omega
  obtain ⟨F, hF⟩ : ∃ F, Hid (F = X ++ V ++ Y ++ U ++ Z) := ⟨_, rfl⟩
  rw [← hF.out]
  have HN := Lib.hid hn; have HA := Lib.hid ha; have HB := Lib.hid hb; have HU := Lib.hid hu; have HV := Lib.hid hv; have HW := Lib.hid HS
  clear hn ha hb hu hv HS
  have mixed := L.mixed; have tU := L.tU; have aU := L.aU; have zU := L.zU; have vU := L.vU; have tI := L.tI; have aI := L.aI; have zI := L.zI; have vI := L.vI; have tB := L.tB; have aB := L.aB; have zB := L.zB; have vB := L.vB; have tS := L.tS; have aS := L.aS; have zS := L.zS; have vS := L.vS; have tC := L.tC; have aC := L.aC; have zC := L.zC; have vC := L.vC; have tW := L.tW; have aW := L.aW; have zW := L.zW; have vW := L.vW; have aE := L.aE; have zE := L.zE
  have HE := Lib.hid henc; have HL0 := Lib.hid L
  clear henc L
  go_enter HL0.out.swp, Try.ntmps111
  go_wp2_with fail
  go_loopw [10] (fun v wr => ∃ (i : Nat) (D : List α), v = .int .i64 i ∧ i ≤ m ∧ Hid (D = X ++ (V.take i ++ U.drop i) ++ Y ++ (U.take i ++ V.drop i) ++ Z) ∧ Hid (SwK enc k w0 blk off D wr)) (fun v _ => m - (intOf v).toNat)
  case atStart => exact ⟨0, _, rfl, Nat.zero_le _, by show _ = _; simp, HW⟩
  case round =>
    clear HW
    obtain ⟨i, D, rfl, him, HD, HW⟩ := hrel
    by_cases hlt : i < m
    · have hlz : (i : Int) < (m : Int) := by omega
      obtain ⟨x, y, P, Q, R, hP, hp, hq, hD2⟩ : ∃ x y P Q R, Hid (D = P ++ x :: (Q ++ y :: R)) ∧ Hid (P.length = a + i) ∧ Hid (P.length + 1 + Q.length = b + i) ∧ Hid (P ++ y :: (Q ++ x :: R) = X ++ (V.take (i + 1) ++ U.drop (i + 1)) ++ Y ++ (U.take (i + 1) ++ V.drop (i + 1)) ++ Z) := by
        have h1 := HA.out; have h2 := HB.out; have h3 := HU.out; have h4 := HV.out
        have hiu : i < U.length := by omega
        have hiv : i < V.length := by omega
        refine ⟨U[i]'hiu, V[i]'hiv, X ++ V.take i, U.drop (i + 1) ++ Y ++ U.take i, V.drop (i + 1) ++ Z, ?_, ?_, ?_, ?_⟩
        · show _ = _
          rw [HD.out, List.drop_eq_getElem_cons hiu, List.drop_eq_getElem_cons hiv]
          simp only [List.append_assoc, List.cons_append]
        · show _ = _
          rw [List.length_append, List.length_take]; omega
        · show _ = _
          simp only [List.length_append, List.length_take, List.length_drop]; omega
        · show _ = _
          rw [List.take_succ_eq_append_getElem hiu, List.take_succ_eq_append_getElem hiv]
          simp only [List.append_assoc, List.cons_append, List.nil_append]
      have hDl : D.length = n := by
        have h3 := HU.out; have h4 := HV.out
        rw [HD.out, ← HN.out]
        simp only [List.length_append, List.length_take, List.length_drop]; omega
      have l1 := HW.out.drew.load HE.out Pg (j := a + i) (x := x) (by rw [hP.out]; exact at_mid _ _ _ hp.out)
      have l2 := HW.out.drew.load HE.out Pg (j := b + i) (x := y) (by rw [hP.out, ← List.cons_append, ← List.append_assoc]; exact at_mid _ _ _ (by have := hq.out; simp; omega))
      have lt1 : a + i < D.length := by omega
      have lt2 : b + i < D.length := by omega
      have s1 := HW.out.drew.store HE.out Pg lt1 y
      have s2 := (HW.out.drew.set HE.out lt1 y).store HE.out Pg (j := (b + i)) (by rw [List.length_set]; exact lt2) x
      have n1 : (enc x).length = k := HE.out.len _
      have n2 : (enc y).length = k := HE.out.len _
      have S3 : Hid (SwK enc k w0 blk off ((D.set (a + i) y).set (b + i) x) _) := HW.out.swap HE.out lt1 lt2
      have HD2 : Hid ((D.set (a + i) y).set (b + i) x = X ++ (V.take (i + 1) ++ U.drop (i + 1)) ++ Y ++ (U.take (i + 1) ++ V.drop (i + 1)) ++ Z) := by
        show _ = _
        rw [← hD2.out, hP.out, ← hp.out, ← hq.out, swap_far]
      clear lt1 lt2 hDl
      have q1 : (0 : Int) ≤ (a : Int) + i := by omega
      have q2 : (a : Int) + i < (n : Int) := by omega
      have q3 : ((a : Int) + i).toNat = a + i := by omega
      have q4 : IntKind.i64.wrap ((a : Int) + i) = (a : Int) + i := wrap_is (by omega)
      have r1 : (0 : Int) ≤ (b : Int) + i := by omega
      have r2 : (b : Int) + i < (n : Int) := by omega
      have r3 : ((b : Int) + i).toNat = b + i := by omega
      have r4 : IntKind.i64.wrap ((b : Int) + i) = (b : Int) + i := wrap_is (by omega)
      obtain ⟨cx, hcx⟩ : ∃ c, c = enc x := ⟨_, rfl⟩
      obtain ⟨cy, hcy⟩ : ∃ c, c = enc y := ⟨_, rfl⟩
      rw [← hcx] at l1 s2 n1 S3
      rw [← hcy] at l2 s1 s2 n2 S3
      clear hcx hcy
      go_wp2_with fail
      go_big_region_o
      all_goals go_wp2
      exact ⟨⟨i + 1, _, by go_num, by omega, HD2, S3⟩, by simp [intOf]; omega⟩
    · have hlz : ¬ (i : Int) < (m : Int) := by omega
      have hfin : Hid (D = F) := by
        show _ = _
        have h3 := HU.out; have h4 := HV.out
        rw [HD.out, hF.out, List.take_of_length_le (by omega), List.drop_of_length_le (by omega), List.take_of_length_le (by omega), List.drop_of_length_le (by omega), List.append_nil, List.append_nil]
      go_wp2
      go_end0
      exact ⟨rfl, by rw [← hfin.out]; exact HW.out⟩

set_option maxHeartbeats 3200000 in
theorem rotateK_any (L : LayK Pg k) (henc : EncK enc k) (g : Nat) (cb : Array Value) (blk off cap a m b n : Nat) (X U V Y : List α) (w0 w : World)
    (hn : (X ++ U ++ V ++ Y).length = n) (ha : X.length = a) (hm : X.length + U.length = m) (hb : m + V.length = b) (hu : 0 < U.length) (hv : 0 < V.length) (hmax : n < 1000000000000000000)
    (HS : SwK enc k w0 blk off (X ++ U ++ V ++ Y) w) :
    Calls Pg 105 #[.slice (some ⟨blk, off, none⟩) n cap, .int .i64 a, .int .i64 m, .int .i64 b, .func (.func g) #[] cb] w fun e w' => e = .returned (.tuple #[]) ∧ SwK enc k w0 blk off (X ++ V ++ U ++ Y) w' := by
  have hbn : b ≤ n := by simp at hn; omega
  have ham : a < m := by omega
  have hmb : m < b := by omega
  obtain ⟨F, hF⟩ : ∃ F, Hid (F = X ++ V ++ U ++ Y) := ⟨_, rfl⟩
  rw [← hF.out]
  have HN := Lib.hid hn; have HA := Lib.hid ha; have HM := Lib.hid hm; have HB := Lib.hid hb; have HW := Lib.hid HS
  have hu0 : 0 < m - a := by omega
  have hv0 : 0 < b - m := by omega
  have hu1 := Lib.hid (show U.length = m - a by omega)
  have hv1 := Lib.hid (show V.length = b - m by omega)
  clear hn ha hm hb HS hu hv
  have w1 : IntKind.i64.wrap ((m : Int) - a) = ((m - a : Nat) : Int) := by rw [wrap_is (by omega)]; omega
  have w2 : IntKind.i64.wrap ((b : Int) - m) = ((b - m : Nat) : Int) := by rw [wrap_is (by omega)]; omega
  have mixed := L.mixed; have tU := L.tU; have aU := L.aU; have zU := L.zU; have vU := L.vU; have tI := L.tI; have aI := L.aI; have zI := L.zI; have vI := L.vI; have tB := L.tB; have aB := L.aB; have zB := L.zB; have vB := L.vB; have tS := L.tS; have aS := L.aS; have zS := L.zS; have vS := L.vS; have tC := L.tC; have aC := L.aC; have zC := L.zC; have vC := L.vC; have tW := L.tW; have aW := L.aW; have zW := L.zW; have vW := L.vW; have aE := L.aE; have zE := L.zE
  have eswp : ∀ args w, (callFunc 111 args).run Pg w = .ok (.enter 111 args) w := enters_of L.swp (by kernel_rfl) rfl
  have HE := Lib.hid henc; have HL0 := Lib.hid L
  clear henc L
  go_enter HL0.out.rot, Try.ntmps105
  go_wp2_with fail
  go_loopw [10, 11] (fun v u wr => ∃ (i j : Nat) (D X' U' V' Y' : List α), v = .int .i64 i ∧ u = .int .i64 j ∧ 0 < i ∧ 0 < j ∧ i ≤ m ∧ m + j ≤ b ∧ Hid (D = X' ++ U' ++ V' ++ Y') ∧ Hid (D.length = n) ∧ Hid (X'.length + U'.length = m) ∧ Hid (U'.length = i) ∧ Hid (V'.length = j) ∧ Hid (F = X' ++ V' ++ U' ++ Y') ∧ Hid (SwK enc k w0 blk off D wr)) (fun v u _ => (intOf v).toNat + (intOf u).toNat)
  case atStart => exact ⟨m - a, b - m, _, X, U, V, Y, rfl, rfl, hu0, hv0, by omega, by omega, Lib.hid rfl, HN, HM, hu1, hv1, hF, HW⟩
  case round =>
    clear HW HN HM hu1 hv1 hF
    obtain ⟨i, j, D, X', U', V', Y', rfl, rfl, hi, hj, him, hjb, HD, HL, HM, HU, HV, hF, HW⟩ := hrel
    have w3 : IntKind.i64.wrap ((m : Int) - i) = ((m - i : Nat) : Int) := by rw [wrap_is (by omega)]; omega
    rcases Nat.lt_trichotomy i j with hij | hij | hij
    · have h1 : ¬ (i : Int) = j := by omega
      have h2 : ¬ (j : Int) < i := by omega
      have w4 : IntKind.i64.wrap ((m : Int) + j) = (m : Int) + j := wrap_is (by omega)
      have w5 : IntKind.i64.wrap ((m : Int) + j - i) = ((m + j - i : Nat) : Int) := by rw [wrap_is (by omega)]; omega
      have w6 : IntKind.i64.wrap ((j : Int) - i) = ((j - i : Nat) : Int) := by rw [wrap_is (by omega)]; omega
      obtain ⟨V1, V2, hV, hl1, hl2⟩ : ∃ V1 V2, Hid (V' = V1 ++ V2) ∧ Hid (V1.length = j - i) ∧ Hid (V2.length = i) := by
        have := HV.out
        exact ⟨V'.take (j - i), V'.drop (j - i), by show _ = _; rw [List.take_append_drop], by show _ = _; rw [List.length_take]; omega, by show _ = _; rw [List.length_drop]; omega⟩
      have C := Lib.hid (swapRangeK_any HL0.out HE.out  g cb blk off cap (m - i) (m + j - i) i n X' U' V1 V2 Y' w0 wr (by have := HL.out; rw [HD.out, hV.out] at this; simpa using this)
        (by have := HM.out; have := HU.out; omega) (by have := HM.out; have := hl1.out; omega) HU.out hl2.out hmax (by have := HW.out; rw [HD.out, hV.out] at this; simpa using this))
      go_wp2_with (go_at_call 111; refine C.out.mono ?_; rintro e w' ⟨rfl, HS⟩)
      have HS2 := Lib.hid HS
      clear HS
      exact ⟨⟨i, j - i, _, X', V2, V1, U' ++ Y', rfl, by go_num, hi, by omega, him, by omega, by show _ = _; simp, by show _ = _; have h1 := HL.out; have h2 := HD.out; have h3 := hV.out; rw [h2, h3] at h1; simp at h1 ⊢; omega, by show _ = _; have h1 := HM.out; have h2 := HU.out; have h3 := hl2.out; omega, hl2, hl1, by show _ = _; rw [hF.out, hV.out]; simp, HS2⟩, by simp [intOf]; omega⟩
    · subst hij
      have C := Lib.hid (swapRangeK_any HL0.out HE.out  g cb blk off cap (m - i) m i n X' U' [] V' Y' w0 wr (by have := HL.out; rw [HD.out] at this; simpa using this)
        (by have := HM.out; have := HU.out; omega) (by have := HM.out; simpa using this) HU.out HV.out hmax (by have := HW.out; rw [HD.out] at this; simpa using this))
      go_wp2_with (go_at_call 111; refine C.out.mono ?_; rintro e w' ⟨rfl, HS⟩)
      go_end0
      exact ⟨rfl, by rw [hF.out]; simpa using HS⟩
    · have h1 : ¬ (i : Int) = j := by omega
      have h2 : (j : Int) < i := by omega
      have w6 : IntKind.i64.wrap ((i : Int) - j) = ((i - j : Nat) : Int) := by rw [wrap_is (by omega)]; omega
      obtain ⟨U1, U2, hU, hl1, hl2⟩ : ∃ U1 U2, Hid (U' = U1 ++ U2) ∧ Hid (U1.length = j) ∧ Hid (U2.length = i - j) := by
        have := HU.out
        exact ⟨U'.take j, U'.drop j, by show _ = _; rw [List.take_append_drop], by show _ = _; rw [List.length_take]; omega, by show _ = _; rw [List.length_drop]; omega⟩
      have C := Lib.hid (swapRangeK_any HL0.out HE.out  g cb blk off cap (m - i) m j n X' U1 U2 V' Y' w0 wr (by have := HL.out; rw [HD.out, hU.out] at this; simpa using this)
        (by have := HM.out; have := HU.out; omega) (by have h1 := HM.out; rw [hU.out] at h1; simpa [Nat.add_assoc] using h1) hl1.out HV.out hmax (by have := HW.out; rw [HD.out, hU.out] at this; simpa using this))
      go_wp2_with (go_at_call 111; refine C.out.mono ?_; rintro e w' ⟨rfl, HS⟩)
      have HS2 := Lib.hid HS
      clear HS
      exact ⟨⟨i - j, j, _, X' ++ V', U2, U1, Y', by go_num, rfl, by omega, hj, by omega, hjb, by show _ = _; simp, by show _ = _; have h1 := HL.out; have h2 := HD.out; have h3 := hU.out; rw [h2, h3] at h1; simp at h1 ⊢; omega, by show _ = _; have h1 := HM.out; have h2 := HU.out; have h3 := hl2.out; have h4 := HV.out; rw [List.length_append]; omega, hl2, hl1, by show _ = _; rw [hF.out, hU.out]; simp, HS2⟩, by simp [intOf]; omega⟩
end Go.Proofs.Ytieaobeidlhefaa
