/- slices.insertionSortCmpFunc at structs: a part of what is sorted is sorted by insertion. -/
import Derived.Test.YtieaobeidlhefaaKLay
import Derived.Shelf.SlSortCmp.QuietGrown
import Derived.Shelf.RegionOpenPlain
import Derived.BigRegion
import Derived.IntWalk
import Derived.Shelf.Abstract
namespace Go.Proofs.Ytieaobeidlhefaa
set_option maxRecDepth 100000
open Go.RowKit Go.Sort Srt
variable {α : Type} {Pg : Program} {enc : α → List Value} {k : Nat}

set_option maxHeartbeats 3200000 in
theorem insSortK_any {lt : α → α → Bool} (hw : Weak lt) (L : LayK Pg k) (henc : EncK enc k) (g : Nat) (cb : Array Value) (blk off cap a b n : Nat) (X S Y : List α) (w0 w : World)
    (eg : ∀ args w, (callFunc g args).run Pg w = .ok (.enter g args) w) (hcmp : CmpK Pg g cb enc k lt blk off n w0)
    (hn : (X ++ S ++ Y).length = n) (ha : X.length = a) (hb : X.length + S.length = b) (hmax : n < 1000000000000000000)
    (HS : SwK enc k w0 blk off (X ++ S ++ Y) w) :
    Calls Pg 92 #[.slice (some ⟨blk, off, none⟩) n cap, .int .i64 a, .int .i64 b, .func (.func g) #[] cb] w fun e w' => e = .returned (.tuple #[]) ∧ SwK enc k w0 blk off (X ++ isort lt S ++ Y) w' := by
  have hbn : b ≤ n := by rw [← hb, ← hn]; simp
  have hab : a ≤ b := by omega
  obtain ⟨F, hF⟩ : ∃ F, Hid (F = X ++ isort lt S ++ Y) := ⟨_, rfl⟩
  rw [← hF.out]
  have hstart : Hid (∃ D, Hid (D = X ++ (isort lt (S.take 1) ++ S.drop 1) ++ Y) ∧ SwK enc k w0 blk off D w) := by
    refine ⟨_, rfl, ?_⟩
    cases S with
    | nil => exact HS
    | cons x S => simpa [isort] using HS
  have HN := Lib.hid hn; have HA := Lib.hid ha; have HB := Lib.hid hb; have HC := Lib.hid hcmp; have HWk := Lib.hid hw
  clear hn ha hb hcmp HS hw
  have mixed := L.mixed; have tU := L.tU; have aU := L.aU; have zU := L.zU; have vU := L.vU; have tI := L.tI; have aI := L.aI; have zI := L.zI; have vI := L.vI; have tB := L.tB; have aB := L.aB; have zB := L.zB; have vB := L.vB; have tS := L.tS; have aS := L.aS; have zS := L.zS; have vS := L.vS; have tC := L.tC; have aC := L.aC; have zC := L.zC; have vC := L.vC; have tW := L.tW; have aW := L.aW; have zW := L.zW; have vW := L.vW; have aE := L.aE; have zE := L.zE
  have HE := Lib.hid henc; have HL0 := Lib.hid L
  clear henc L
  go_enter HL0.out.ins, Try.ntmps92
  go_wp2_with fail
  go_loopw [8] (fun v wr => ∃ (i : Nat) (D : List α), v = .int .i64 i ∧ a < i ∧ i ≤ b + 1 ∧ Hid (D = X ++ (isort lt (S.take (i - a)) ++ S.drop (i - a)) ++ Y) ∧ Hid (SwK enc k w0 blk off D wr)) (fun v _ => b + 1 - (intOf v).toNat)
  case atStart =>
    obtain ⟨D, h1, h2⟩ := hstart.out
    refine ⟨a + 1, D, by go_num, by omega, by omega, ?_, h2⟩
    show _ = _
    rw [h1.out, show a + 1 - a = 1 by omega]
  case round =>
    clear hstart
    obtain ⟨i, D, rfl, hai, hib, HD, HW⟩ := hrel
    by_cases hlt : i < b
    · have hlz : (i : Int) < (b : Int) := by omega
      obtain ⟨x, R, hR, hfin⟩ : ∃ x R, Hid (D = (X ++ isort lt (S.take (i - a))) ++ x :: R) ∧ Hid (∀ D', D' = X ++ merge lt (isort lt (S.take (i - a))) [x] ++ R → D' = X ++ (isort lt (S.take (i + 1 - a)) ++ S.drop (i + 1 - a)) ++ Y) := by
        have h1 := HA.out; have h2 := HB.out
        have hk : i - a < S.length := by omega
        refine ⟨S[i - a]'hk, S.drop (i - a + 1) ++ Y, ?_, ?_⟩
        · show _ = _
          rw [HD.out, ← List.cons_append, ← List.drop_eq_getElem_cons hk]
          simp only [List.append_assoc]
        · intro D' h
          rw [h, show i + 1 - a = i - a + 1 by omega, List.take_succ_eq_append_getElem hk, isort_snoc]
          simp
      obtain ⟨B, hB, hBs, hBl⟩ : ∃ B, Hid (B = isort lt (S.take (i - a))) ∧ Hid (Sorted lt B) ∧ Hid (X.length + B.length = i) := by
        have h1 := HA.out; have h2 := HB.out
        refine ⟨_, rfl, isort_sorted HWk.out _, ?_⟩
        show _ = _
        rw [isort_len, List.length_take]; omega
      rw [← hB.out] at hR hfin
      go_wp2_with fail
      go_loopw [9] (fun v wr2 => ∃ (j : Nat) (A1 A2 D' : List α), v = .int .i64 j ∧ a ≤ j ∧ j ≤ i ∧ Hid (B = A1 ++ A2) ∧ Hid (X.length + A1.length = j) ∧ Hid (∀ u ∈ A2, lt x u = true) ∧ Hid (D' = (X ++ A1) ++ x :: (A2 ++ R)) ∧ Hid (SwK enc k w0 blk off D' wr2)) (fun v _ => (intOf v).toNat)
      case atStart => exact ⟨i, B, [], D, rfl, by omega, Nat.le_refl _, by show _ = _; simp, hBl, by intro u hu; simp at hu, by show _ = _; rw [hR.out]; simp, HW⟩
      case round =>
        clear HW
        obtain ⟨j, A1, A2, D', rfl, haj, hji, hA, hjl, hx2, hD', HW⟩ := hrel
        by_cases hja : a < j
        · have hjaz : (a : Int) < (j : Int) := by omega
          obtain ⟨j1, A3, y, hj1, hA3, hl3⟩ : ∃ j1 A3 y, Hid (j = j1 + 1) ∧ Hid (A1 = A3 ++ [y]) ∧ Hid (X.length + A3.length = j1) := by
            have h1 := HA.out; have h2 := hjl.out
            obtain ⟨A3, y, e1, e2⟩ := list_last (A := A1) (m := j - a - 1) (by omega)
            exact ⟨j - 1, A3, y, by show _ = _; omega, e1, by show _ = _; omega⟩
          have hDl : Hid (D'.length = n) := by
            show _ = _
            rw [hD'.out, ← HN.out]
            have h3 := congrArg List.length hR.out
            have h4 := congrArg List.length HD.out
            have h5 := congrArg List.length hA.out
            simp [isort_len] at h3 h4 h5 ⊢
            omega
          have K : Hid (∀ W, SwK enc k w0 blk off D' W → Sem.run Pg (loadCellsFrom ⟨blk, off + j * k, none⟩ 0 k #[]) W = .ok (enc x).toArray W ∧ Sem.run Pg (loadCellsFrom ⟨blk, off + j1 * k, none⟩ 0 k #[]) W = .ok (enc y).toArray W) := by
            intro W hW
            exact ⟨hW.load HE.out Pg (by rw [hD'.out]; exact at_mid _ _ _ (by rw [List.length_append]; exact hjl.out)), hW.load HE.out Pg (by rw [hD'.out, hA3.out, show (X ++ (A3 ++ [y])) ++ x :: (A2 ++ R) = (X ++ A3) ++ y :: (x :: (A2 ++ R)) by simp]; exact at_mid _ _ _ (by rw [List.length_append]; exact hl3.out))⟩
          have q1 : (0 : Int) ≤ (j : Int) - 1 := by have := hj1.out; omega
          have q6 : 0 < j := by omega
          have q7 : j ≤ n := by omega
          have q8 : (1 : Int) ≤ (j : Int) := by omega
          have q2 : (j : Int) - 1 < (n : Int) := by omega
          have q3 : ((j : Int) - 1).toNat = j1 := by have := hj1.out; omega
          have q4 : IntKind.i64.wrap ((j : Int) - 1) = (j : Int) - 1 := wrap_is (by omega)
          have q5 : (j : Int) < (n : Int) := by omega
          cases hv : lt x y with
          | true =>
            obtain ⟨rr, hr, C⟩ := HC.out.at hv hDl.out HW.out
            have l1 : ∀ m os, _ := fun m os => (K.out _ (HW.out.grown m os)).1
            have l2 : ∀ m os, _ := fun m os => (K.out _ (HW.out.grown m os)).2
            go_wp2_with fail
            go_quiet_grown (first | (go_at_fn g; refine Calls.grown_of (C _ _)))
            have S2 := Lib.hid (HW.out.grown nq osq)
            clear C l1 l2
            generalize grow (wr.drewN nq) osq = wq at S2 ⊢
            have hjl2 : j < D'.length := by rw [hDl.out]; omega
            have hjl3 : j1 < D'.length := by rw [hDl.out]; have := hj1.out; omega
            have l1 := (K.out _ S2.out.drew).1
            have l2 := (K.out _ S2.out.drew).2
            have s1 := S2.out.drew.store HE.out Pg hjl2 y
            have s2 := (S2.out.drew.set HE.out hjl2 y).store HE.out Pg (j := j1) (by rw [List.length_set]; exact hjl3) x
            have n1 : (enc x).length = k := HE.out.len _
            have n2 : (enc y).length = k := HE.out.len _
            have S3 : Hid (SwK enc k w0 blk off ((D'.set j y).set j1 x) _) := S2.out.swap HE.out hjl2 hjl3
            clear hjl2 hjl3 S2
            have HD2 : Hid ((D'.set j y).set j1 x = (X ++ A3) ++ x :: ((y :: A2) ++ R)) := by
              show _ = _
              have e1 := hj1.out; have e2 := hl3.out
              rw [hD'.out, hA3.out, e1, show X ++ (A3 ++ [y]) ++ x :: (A2 ++ R) = (X ++ A3) ++ y :: x :: (A2 ++ R) by simp, ← e2, ← List.length_append, swap_adj]
              simp
            obtain ⟨D2, hD2⟩ : ∃ D2, D2 = (D'.set j y).set j1 x := ⟨_, rfl⟩
            rw [← hD2] at HD2 S3
            clear hD2
            have hx3 : Hid (∀ u ∈ y :: A2, lt x u = true) := by
              intro u hu
              rcases List.mem_cons.1 hu with rfl | hu
              · exact hv
              · exact hx2.out u hu
            have hA4 : Hid (B = A3 ++ y :: A2) := by show _ = _; rw [hA.out, hA3.out]; simp
            obtain ⟨cx, hcx⟩ : ∃ c, c = enc x := ⟨_, rfl⟩
            obtain ⟨cy, hcy⟩ : ∃ c, c = enc y := ⟨_, rfl⟩
            rw [← hcx] at l1 s2 n1 S3
            rw [← hcy] at l2 s1 s2 n2 S3
            clear hcx hcy
            go_wp2_with fail
            go_big_region_o
            all_goals go_wp2
            exact ⟨⟨j1, A3, y :: A2, D2, by have := hj1.out; go_num, by have := hj1.out; omega, by have := hj1.out; omega, hA4, hl3, hx3, HD2, S3⟩, by have := hj1.out; simp [intOf]; omega⟩
          | false =>
            obtain ⟨rr, hr, C⟩ := HC.out.at hv hDl.out HW.out
            have l1 : ∀ m os, _ := fun m os => (K.out _ (HW.out.grown m os)).1
            have l2 : ∀ m os, _ := fun m os => (K.out _ (HW.out.grown m os)).2
            go_wp2_with fail
            go_quiet_grown (first | (go_at_fn g; refine Calls.grown_of (C _ _)))
            have S2 := Lib.hid (HW.out.grown nq osq)
            clear C l1 l2
            generalize grow (wr.drewN nq) osq = wq at S2 ⊢
            have HD3 := Lib.hid (hfin.out D' (by
              have h1 := sorted_upto HWk.out (A := A3) (y := y) (x := x) (by have := hBs.out; rw [hA.out, hA3.out] at this; exact (Sorted.split this).1) hv
              rw [hD'.out, hA.out, merge_one A1 A2 x (by rw [hA3.out]; exact h1) hx2.out]
              simp))
            go_wp2
            exact ⟨⟨i + 1, D', by go_num, by omega, by omega, HD3, S2⟩, by simp [intOf]; omega⟩
        · have hjaz : ¬ (a : Int) < (j : Int) := by omega
          have HD3 := Lib.hid (hfin.out D' (by
            have h1 := HA.out; have h2 := hjl.out
            have h3 : A1 = [] := List.eq_nil_of_length_eq_zero (by omega)
            rw [hD'.out, hA.out, merge_one A1 A2 x (by rw [h3]; simp) hx2.out]
            simp))
          have hjd : decide ((j : Int) > (a : Int)) = false := decide_eq_false (by omega)
          go_wp2_with fail
          have S2 := Lib.hid HW.out.drew
          go_big_region_o
          all_goals go_wp2
          exact ⟨⟨i + 1, D', by go_num, by omega, by omega, HD3, S2⟩, by simp [intOf]; omega⟩
    · have hlz : ¬ (i : Int) < (b : Int) := by omega
      have hfin : Hid (D = F) := by
        show _ = _
        have h1 := HA.out; have h2 := HB.out
        rw [HD.out, hF.out, List.take_of_length_le (by omega), List.drop_of_length_le (by omega), List.append_nil]
      go_wp2
      go_end0
      exact ⟨rfl, by rw [← hfin.out]; exact HW.out⟩
end Go.Proofs.Ytieaobeidlhefaa
