/- Whatever schema, base, lines and table come in: BaseOrder answers true: it plays no part in which order lines of unlike keys are put, and dropped. No condition. -/
import Derived.Test.YtfljhnalmiibeaaGreatRows
import Derived.Test.YtfljhnalmiibeaaGreatMbMem
import Derived.Test.YtfljhnalmiibeaaGreatMbBasOpen
import Derived.Test.YtfljhnalmiibeaaGreatMbVecOpen
import Derived.Test.YtfljhnalmiibeaaGreatMbBasVar
namespace Go.Proofs.YtfljhnalmiibeaaGreat.baseOrder
open Go.ChangeShapes Go.WideShapes Go.ChangeAt Go.RowKit Go.ChangeMaps
set_option maxRecDepth 100000 in
set_option maxHeartbeats 25600000 in
theorem walk (A : Option Addr) (n c : Nat) (l : List T6) (B : Option Addr) (m d : Nat) (b : List (List LQ)) (u v : LnR) (yu yv : LQ) (t : Int) (w : World) (hs : RdS11 w A n c l) (hb : RdB w B m d b) (hL : ∀ q ∈ b, q.length ≤ 140737488355328) (hu : LineR w u yu) (hv : LineR w v yv) : Calls Tryz.prog 7 #[.agg #[.slice A n c], .agg #[.slice B m d], .agg #[.int .i64 u.key, .slice u.ca u.cn u.cc, .slice u.ba u.bn u.bc, .int .i64 v.key, .slice v.ca v.cn v.cc, .slice v.ba v.bn v.bc], .int .i64 t] w fun e w' => e = .returned (.bool true) ∧ Below w.heap.size w w' := by
  have hle := hs.le
  have HN := Lib.hid hs.len
  have HM := Lib.hid hb.len
  obtain ⟨w1, hw1⟩ : ∃ w1, w1 = (((w.alloc (schBox A n c)).alloc (baseBox B m d)).alloc (.cells #[.int .i64 u.key, .slice u.ca u.cn u.cc, .slice u.ba u.bn u.bc, .int .i64 v.key, .slice v.ca v.cn v.cc, .slice v.ba v.bn v.bc] 51)) := ⟨_, rfl⟩
  have HW1 := Lib.hid hw1
  have HB : Hid (Below w.heap.size w w1) := by rw [hw1]; exact below_new (below_new (below_new (Below.refl _ _) _) _) _
  have R0 : Hid (w1.heap[w.heap.size]? = some (schBox A n c)) := by rw [hw1]; exact old_row13 _ (old_row13 _ (new_row13 _ _ rfl))
  have R1 : Hid (w1.heap[w.heap.size + 1]? = some (baseBox B m d)) := by rw [hw1]; exact old_row13 _ (new_row13 _ _ (by simp only [World.size_alloc]))
  have R2 : Hid (w1.heap[w.heap.size + 1 + 1]? = some (.cells #[.int .i64 u.key, .slice u.ca u.cn u.cc, .slice u.ba u.bn u.bc, .int .i64 v.key, .slice v.ca v.cn v.cc, .slice v.ba v.bn v.bc] 51)) := by rw [hw1]; exact new_row13 _ _ (by simp only [World.size_alloc])
  have HS := Lib.hid (hs.below HB.out)
  have RB := Lib.hid (hb.below dataR_keeps HB.out)
  have HU := Lib.hid (hu.below HB.out)
  have HV := Lib.hid (hv.below HB.out)
  clear hw1 hs hb hu hv
  go_enter Tryz.func7, Tryz.ntmps7
  go_upto_region 1 with fail
  rw [show (((w.alloc (schBox A n c)).alloc (baseBox B m d)).alloc (.cells #[.int .i64 u.key, .slice u.ca u.cn u.cc, .slice u.ba u.bn u.bc, .int .i64 v.key, .slice v.ca v.cn v.cc, .slice v.ba v.bn v.bc] 51)) = w1 from HW1.out.symm]
  clear HW1
  have R1_0 := base_row R1.out
  go_wp2_with fail
  refine (few13_any B m d b _ RB.out hL).mono ?_
  rintro e w2 ⟨q, rfl, hq, b⟩
  clear R1_0
  replace R0 := Lib.hid (row_below R0.out b)
  replace R1 := Lib.hid (row_below R1.out b)
  replace R2 := Lib.hid (row_below R2.out b)
  replace HS := Lib.hid (HS.out.below b)
  replace RB := Lib.hid (RB.out.below dataR_keeps b)
  replace HU := Lib.hid (HU.out.below b)
  replace HV := Lib.hid (HV.out.below b)
  replace HB := Lib.hid (below_then HB.out b)
  clear b hL
  cases q with
  | false =>
    clear hq
    go_wp2_with fail
    refine (alive13_any _).mono ?_
    rintro e wz ⟨rfl, bz⟩
    have HZ := Lib.hid (below_then HB.out bz)
    clear bz
    go_wp2_with fail
    go_ret
    exact ⟨rfl, HZ.out⟩
  | true =>
    have HF : Hid (FewB b) := hq rfl
    clear hq
    have R2_0 := cell_row R2.out 0
    have R2_1 := cell_row R2.out 1
    have R2_2 := cell_row R2.out 2
    have R2_3 := cell_row R2.out 3
    have R2_4 := cell_row R2.out 4
    have R2_5 := cell_row R2.out 5
    try dsimp only [Array.getElem?_toList] at R2_0 R2_1 R2_2 R2_3 R2_4 R2_5
    go_wp2_with fail
    refine (smallP13_any u yu _ HU.out).mono ?_
    rintro e w3 ⟨q, rfl, hq, b⟩
    clear R2_0 R2_1 R2_2 R2_3 R2_4 R2_5
    replace R0 := Lib.hid (row_below R0.out b)
    replace R1 := Lib.hid (row_below R1.out b)
    replace R2 := Lib.hid (row_below R2.out b)
    replace HS := Lib.hid (HS.out.below b)
    replace RB := Lib.hid (RB.out.below dataR_keeps b)
    replace HU := Lib.hid (HU.out.below b)
    replace HV := Lib.hid (HV.out.below b)
    replace HB := Lib.hid (below_then HB.out b)
    clear b
    cases q with
    | false =>
      clear hq
      go_wp2_with fail
      refine (alive13_any _).mono ?_
      rintro e wz ⟨rfl, bz⟩
      have HZ := Lib.hid (below_then HB.out bz)
      clear bz
      go_wp2_with fail
      go_ret
      exact ⟨rfl, HZ.out⟩
    | true =>
      have HSu : Hid (SmallL yu) := hq rfl
      clear hq
      have R2_0 := cell_row R2.out 0
      have R2_1 := cell_row R2.out 1
      have R2_2 := cell_row R2.out 2
      have R2_3 := cell_row R2.out 3
      have R2_4 := cell_row R2.out 4
      have R2_5 := cell_row R2.out 5
      try dsimp only [Array.getElem?_toList] at R2_0 R2_1 R2_2 R2_3 R2_4 R2_5
      go_wp2_with fail
      refine (smallP13_any v yv _ HV.out).mono ?_
      rintro e w4 ⟨q, rfl, hq, b⟩
      clear R2_0 R2_1 R2_2 R2_3 R2_4 R2_5
      replace R0 := Lib.hid (row_below R0.out b)
      replace R1 := Lib.hid (row_below R1.out b)
      replace R2 := Lib.hid (row_below R2.out b)
      replace HS := Lib.hid (HS.out.below b)
      replace RB := Lib.hid (RB.out.below dataR_keeps b)
      replace HU := Lib.hid (HU.out.below b)
      replace HV := Lib.hid (HV.out.below b)
      replace HB := Lib.hid (below_then HB.out b)
      clear b
      cases q with
      | false =>
        clear hq
        go_wp2_with fail
        refine (alive13_any _).mono ?_
        rintro e wz ⟨rfl, bz⟩
        have HZ := Lib.hid (below_then HB.out bz)
        clear bz
        go_wp2_with fail
        go_ret
        exact ⟨rfl, HZ.out⟩
      | true =>
        have HSv : Hid (SmallL yv) := hq rfl
        clear hq
        have R0_0 := sch_row R0.out
        by_cases hn : (20 : Int) < (n : Int)
        · skip
          go_wp2_with fail
          refine (alive13_any _).mono ?_
          rintro e wz ⟨rfl, bz⟩
          have HZ := Lib.hid (below_then HB.out bz)
          clear bz
          go_wp2_with fail
          go_ret
          exact ⟨rfl, HZ.out⟩
        clear R0_0
        obtain ⟨r, hr⟩ : ∃ r, Hid (baseOk l b = r) := ⟨_, rfl⟩
        have R0_0 := sch_row R0.out
        have R1_0 := base_row R1.out
        go_wp2_with fail
        refine (right_is HS.out RB.out HF.out.ok hr).mono ?_
        rintro e w5 ⟨rfl, b⟩
        clear R0_0 R1_0
        replace R0 := Lib.hid (row_below R0.out b)
        replace R1 := Lib.hid (row_below R1.out b)
        replace R2 := Lib.hid (row_below R2.out b)
        replace HS := Lib.hid (HS.out.below b)
        replace RB := Lib.hid (RB.out.below dataR_keeps b)
        replace HU := Lib.hid (HU.out.below b)
        replace HV := Lib.hid (HV.out.below b)
        replace HB := Lib.hid (below_then HB.out b)
        clear b
        cases r with
        | false =>
          clear hr
          go_wp2_with fail
          refine (alive13_any _).mono ?_
          rintro e wz ⟨rfl, bz⟩
          have HZ := Lib.hid (below_then HB.out bz)
          clear bz
          go_wp2_with fail
          go_ret
          exact ⟨rfl, HZ.out⟩
        | true =>
          by_cases hk : u.key = v.key
          · skip
            have R2_0 := cell_row R2.out 0
            have R2_1 := cell_row R2.out 1
            have R2_2 := cell_row R2.out 2
            have R2_3 := cell_row R2.out 3
            have R2_4 := cell_row R2.out 4
            have R2_5 := cell_row R2.out 5
            try dsimp only [Array.getElem?_toList] at R2_0 R2_1 R2_2 R2_3 R2_4 R2_5
            have hk2 : (u.key == v.key) = true := by simp [hk]
            go_wp2_with fail
            refine (alive13_any _).mono ?_
            rintro e wz ⟨rfl, bz⟩
            have HZ := Lib.hid (below_then HB.out bz)
            clear bz
            go_wp2_with fail
            go_ret
            exact ⟨rfl, HZ.out⟩
          have HK : Hid (yu.key ≠ yv.key) := by show _ ≠ _; rw [← HU.out.1, ← HV.out.1]; exact hk
          have ha := right_asc hr.out t
          obtain ⟨P1, hP1⟩ : ∃ P, Hid (putB13 b t yu = P) := ⟨_, rfl⟩
          obtain ⟨P2, hP2⟩ : ∃ P, Hid (putB13 b t yv = P) := ⟨_, rfl⟩
          obtain ⟨P3, hP3⟩ : ∃ P, Hid (dropB13 b t v.key = P) := ⟨_, rfl⟩
          obtain ⟨Q1, hQ1⟩ : ∃ P, Hid (putB13 P1 t yv = P) := ⟨_, rfl⟩
          obtain ⟨Q2, hQ2⟩ : ∃ P, Hid (dropB13 P1 t v.key = P) := ⟨_, rfl⟩
          have hQ3 : Hid (putB13 P2 t yu = Q1) := by show _ = _; rw [← hP2.out, ← hQ1.out, ← hP1.out]; exact (base_put_put ha HK.out).symm
          have hQ4 : Hid (putB13 P3 t yu = Q2) := by show _ = _; rw [← hP3.out, ← hQ2.out, ← hP1.out]; exact (base_put_drop ha (by rw [HV.out.1]; exact HK.out)).symm
          have O1 : Hid (BaseOk P1) := by show BaseOk P1; rw [← hP1.out]; exact put_ok HF.out HSu.out
          have O2 : Hid (BaseOk P2) := by show BaseOk P2; rw [← hP2.out]; exact put_ok HF.out HSv.out
          have O3 : Hid (BaseOk P3) := by show BaseOk P3; rw [← hP3.out]; exact drop_few HF.out.ok
          have hk2 : (u.key == v.key) = false := by simp [hk]
          clear ha hr HK HS
          have R2_0 := cell_row R2.out 0
          have R2_1 := cell_row R2.out 1
          have R2_2 := cell_row R2.out 2
          have R2_3 := cell_row R2.out 3
          have R2_4 := cell_row R2.out 4
          have R2_5 := cell_row R2.out 5
          try dsimp only [Array.getElem?_toList] at R2_0 R2_1 R2_2 R2_3 R2_4 R2_5
          go_upto_region 3 with fail
          clear R2_0 R2_1 R2_2 R2_3 R2_4 R2_5
          clear hk hk2
          skip
          go_cut [9] from 50 to 58 (fun s wz => ∃ gd A' d', s = .pointer (some ⟨gd, 0, none⟩) ∧ Hid (wz.heap[gd]? = some (baseBox A' m d')) ∧ Hid (RdB wz A' m d' Q1) ∧ Hid (Below w5.heap.size w5 wz))
          case first =>
            have R1_0 := base_row R1.out
            have R2_0 := cell_row R2.out 0
            have R2_1 := cell_row R2.out 1
            have R2_2 := cell_row R2.out 2
            have R2_3 := cell_row R2.out 3
            have R2_4 := cell_row R2.out 4
            have R2_5 := cell_row R2.out 5
            try dsimp only [Array.getElem?_toList] at R2_0 R2_1 R2_2 R2_3 R2_4 R2_5
            have C1 : Hid (∀ W, Below w5.heap.size w5 W → Calls Tryz.prog 18 #[.agg #[.slice B m d], .int .i64 t, .agg #[.int .i64 u.key, .slice u.ca u.cn u.cc, .slice u.ba u.bn u.bc]] W fun e w' => ∃ (za : Option Addr) (zc : Nat), e = .returned (.agg #[.slice za m zc]) ∧ RdB w' za m zc P1 ∧ Below W.heap.size W w') := fun W hW => put_is (RB.out.below dataR_keeps hW) HF.out.ok (HU.out.below hW) HSu.out.ok hP1
            have C2 : Hid (∀ W za zc, Below w5.heap.size w5 W → RdB W za m zc P1 → Calls Tryz.prog 18 #[.agg #[.slice za m zc], .int .i64 t, .agg #[.int .i64 v.key, .slice v.ca v.cn v.cc, .slice v.ba v.bn v.bc]] W fun e w' => ∃ (ya : Option Addr) (yc : Nat), e = .returned (.agg #[.slice ya m yc]) ∧ RdB w' ya m yc Q1 ∧ (∀ a, ya = some a → W.heap.size ≤ a.block) ∧ Below W.heap.size W w') := fun W za zc hW h => putF_is h O1.out (HV.out.below hW) HSv.out.ok hQ1
            have hS0 : Below w5.heap.size w5 w5 ∧ World.cell? w5 ⟨w.heap.size + 1, 0, none⟩ = some (.slice B m d) ∧ World.cell? w5 ⟨w.heap.size + 1 + 1, 0, none⟩ = some (.int .i64 u.key) ∧ World.cell? w5 ⟨w.heap.size + 1 + 1, 1, none⟩ = some (.slice u.ca u.cn u.cc) ∧ World.cell? w5 ⟨w.heap.size + 1 + 1, 2, none⟩ = some (.slice u.ba u.bn u.bc) ∧ World.cell? w5 ⟨w.heap.size + 1 + 1, 3, none⟩ = some (.int .i64 v.key) ∧ World.cell? w5 ⟨w.heap.size + 1 + 1, 4, none⟩ = some (.slice v.ca v.cn v.cc) ∧ World.cell? w5 ⟨w.heap.size + 1 + 1, 5, none⟩ = some (.slice v.ba v.bn v.bc) := ⟨Below.refl _ _, R1_0, R2_0, R2_1, R2_2, R2_3, R2_4, R2_5⟩
            have K : Hid (∀ W W' : World, (Below w5.heap.size w5 W ∧ World.cell? W ⟨w.heap.size + 1, 0, none⟩ = some (.slice B m d) ∧ World.cell? W ⟨w.heap.size + 1 + 1, 0, none⟩ = some (.int .i64 u.key) ∧ World.cell? W ⟨w.heap.size + 1 + 1, 1, none⟩ = some (.slice u.ca u.cn u.cc) ∧ World.cell? W ⟨w.heap.size + 1 + 1, 2, none⟩ = some (.slice u.ba u.bn u.bc) ∧ World.cell? W ⟨w.heap.size + 1 + 1, 3, none⟩ = some (.int .i64 v.key) ∧ World.cell? W ⟨w.heap.size + 1 + 1, 4, none⟩ = some (.slice v.ca v.cn v.cc) ∧ World.cell? W ⟨w.heap.size + 1 + 1, 5, none⟩ = some (.slice v.ba v.bn v.bc)) → Below W.heap.size W W' → (Below w5.heap.size w5 W' ∧ World.cell? W' ⟨w.heap.size + 1, 0, none⟩ = some (.slice B m d) ∧ World.cell? W' ⟨w.heap.size + 1 + 1, 0, none⟩ = some (.int .i64 u.key) ∧ World.cell? W' ⟨w.heap.size + 1 + 1, 1, none⟩ = some (.slice u.ca u.cn u.cc) ∧ World.cell? W' ⟨w.heap.size + 1 + 1, 2, none⟩ = some (.slice u.ba u.bn u.bc) ∧ World.cell? W' ⟨w.heap.size + 1 + 1, 3, none⟩ = some (.int .i64 v.key) ∧ World.cell? W' ⟨w.heap.size + 1 + 1, 4, none⟩ = some (.slice v.ca v.cn v.cc) ∧ World.cell? W' ⟨w.heap.size + 1 + 1, 5, none⟩ = some (.slice v.ba v.bn v.bc))) := by
              show ∀ W W' : World, _
              rintro W W' ⟨kb, k0, k1, k2, k3, k4, k5, k6⟩ hb
              exact ⟨below_then kb hb, (hb.cell (World.block_lt_of_cell? _ _ k0)).trans k0, (hb.cell (World.block_lt_of_cell? _ _ k1)).trans k1, (hb.cell (World.block_lt_of_cell? _ _ k2)).trans k2, (hb.cell (World.block_lt_of_cell? _ _ k3)).trans k3, (hb.cell (World.block_lt_of_cell? _ _ k4)).trans k4, (hb.cell (World.block_lt_of_cell? _ _ k5)).trans k5, (hb.cell (World.block_lt_of_cell? _ _ k6)).trans k6⟩
            have KA : Hid (∀ W, Below w5.heap.size w5 W → (Below w5.heap.size w5 W ∧ World.cell? W ⟨w.heap.size + 1, 0, none⟩ = some (.slice B m d) ∧ World.cell? W ⟨w.heap.size + 1 + 1, 0, none⟩ = some (.int .i64 u.key) ∧ World.cell? W ⟨w.heap.size + 1 + 1, 1, none⟩ = some (.slice u.ca u.cn u.cc) ∧ World.cell? W ⟨w.heap.size + 1 + 1, 2, none⟩ = some (.slice u.ba u.bn u.bc) ∧ World.cell? W ⟨w.heap.size + 1 + 1, 3, none⟩ = some (.int .i64 v.key) ∧ World.cell? W ⟨w.heap.size + 1 + 1, 4, none⟩ = some (.slice v.ca v.cn v.cc) ∧ World.cell? W ⟨w.heap.size + 1 + 1, 5, none⟩ = some (.slice v.ba v.bn v.bc))) := fun W hb => K.out _ _ hS0 hb
            have BX := Lib.hid (Below.refl w5.heap.size w5)
            have HZG := Lib.hid (Nat.le_refl w5.heap.size)
            have m1 : True := trivial
            have m2 : True := trivial
            clear R1_0 R2_0 R2_1 R2_2 R2_3 R2_4 R2_5
            clear R0 R1 R2 RB HU HV HB HSu HSv HF
            go_region_held3 (fun W => Below w5.heap.size w5 W ∧ World.cell? W ⟨w.heap.size + 1, 0, none⟩ = some (.slice B m d) ∧ World.cell? W ⟨w.heap.size + 1 + 1, 0, none⟩ = some (.int .i64 u.key) ∧ World.cell? W ⟨w.heap.size + 1 + 1, 1, none⟩ = some (.slice u.ca u.cn u.cc) ∧ World.cell? W ⟨w.heap.size + 1 + 1, 2, none⟩ = some (.slice u.ba u.bn u.bc) ∧ World.cell? W ⟨w.heap.size + 1 + 1, 3, none⟩ = some (.int .i64 v.key) ∧ World.cell? W ⟨w.heap.size + 1 + 1, 4, none⟩ = some (.slice v.ca v.cn v.cc) ∧ World.cell? W ⟨w.heap.size + 1 + 1, 5, none⟩ = some (.slice v.ba v.bn v.bc))
              (first
                | with_reducible exact K.out _ _ hS0 ((Below.refl _ _).drew)
                | with_reducible exact KA.out _ (below_new BX.out _)
                | with_reducible exact KA.out _ (below_put BX.out _ _ _ HZG.out)
                | with_reducible exact KA.out _ BX.out
                | with_reducible exact KA.out _ (below_new (Below.refl _ _) _)
                | with_reducible exact KA.out _ (below_new (Below.refl _ _) _).drew
                | with_reducible exact KA.out _ (below_new (Below.refl _ _).drew _)
                | with_reducible assumption
                | fail "S?")
              (first
                | (go_at_call 18
                   clear m1
                   refine (C1.out _ (by first | exact Below.refl _ _ | exact (Below.refl _ _).drew | (go_split_ands; assumption))).mono ?_
                   rintro e wq1 ⟨A1, d1, rfl, hri, bb⟩
                   have bx : Below w5.heap.size w5 wq1 := below_then (by first | exact Below.refl _ _ | exact (Below.refl _ _).drew | (go_split_ands; assumption)) bb
                   have QQ1 := Lib.hid hri
                   clear hri
                   first
                   | (have hz9 := Lib.hid (row_below HZ.out bb); clear HZ; have HZ := hz9; clear hz9)
                   | (refine use_row13 (g := w5.heap.size) (o := baseBox none 0 0) bb ?hrow (fun rr hlt => ?_)
                      case hrow =>
                        repeat (first | assumption | (with_reducible refine heap_at13 ?_; first | done | omega | (simp only [World.size_alloc]; omega)) | with_reducible refine heap_drew13 ?_ | (with_reducible refine heap_past13 ?_ ?_; focus (first | done | omega | (simp only [World.size_alloc]; omega))))
                        done
                      have HZ := Lib.hid rr
                      replace HZG := Lib.hid (show w5.heap.size ≤ w5.heap.size from Nat.le_refl _)
                      clear rr hlt)
                   | skip
                   replace BX := Lib.hid bx
                   clear bx bb)
                | (go_at_call 18
                   clear m2
                   refine (C2.out _ _ _ (by go_split_ands; assumption) (by first | exact QQ1.out | exact base_alloc QQ1.out _)).mono ?_
                   rintro e wq2 ⟨A2, d2, rfl, hri, hfr, bb⟩
                   have bx : Below w5.heap.size w5 wq2 := below_then (by first | exact Below.refl _ _ | exact (Below.refl _ _).drew | (go_split_ands; assumption)) bb
                   have QQ2 := Lib.hid hri
                   clear hri
                   first
                   | (have hne : ∀ p, A2 = some p → p.block ≠ w5.heap.size := fun p hp => by have h1 := hfr p hp; have h2 := row_lt HZ.out; (try simp only [World.size_alloc] at h1); omega
                      have hz9 := Lib.hid (row_below HZ.out bb); clear HZ; have HZ := hz9; clear hz9; have HNE := Lib.hid hne; clear hne)
                   | (refine use_row13 (g := wq1.heap.size) (o := baseBox none 0 0) bb ?hrow (fun rr hlt => ?_)
                      case hrow =>
                        repeat (first | assumption | (with_reducible refine heap_at13 ?_; first | done | omega | (simp only [World.size_alloc]; omega)) | with_reducible refine heap_drew13 ?_ | (with_reducible refine heap_past13 ?_ ?_; focus (first | done | omega | (simp only [World.size_alloc]; omega))))
                        done
                      have HZ := Lib.hid rr
                      replace HZG := Lib.hid (show w5.heap.size ≤ wq1.heap.size from BX.out.size)
                      have HNE : Hid (∀ p, A2 = some p → p.block ≠ wq1.heap.size) := fun p hp => by have h1 := hfr p hp; omega
                      clear rr hlt)
                   | skip
                   replace BX := Lib.hid bx
                   clear bx bb hfr
                   (try (have q0 := base_row HZ.out; have f0 := frozen_row HZ.out))))
            all_goals
              first
                | (fail_if_success (have hq9 := HZ)
                   have T1 := Lib.hid (heap_alloc_new wq2 (baseBox A2 m d2))
                   have T2 := Lib.hid (base_alloc QQ2.out (baseBox A2 m d2))
                   have T3 := Lib.hid (below_new BX.out (baseBox A2 m d2))
                   refine at_world13 9 9 rfl rfl (fun gd _ Z => Hid (Z.heap[gd]? = some (baseBox A2 m d2)) ∧ Hid (RdB Z A2 m d2 Q1) ∧ Hid (Below w5.heap.size w5 Z)) ⟨T1, T2, T3⟩ ?_
                   rintro Z ⟨y1, y2, y3⟩
                   go_wp2_with fail
                   go_meet
                   exact ⟨_, _, _, rfl, y1, y2, y3⟩)
                | (have T1 := Lib.hid (set1row (x := .slice A2 m d2) HZ.out)
                   have T2 := Lib.hid (base_set (x := .slice A2 m d2) QQ2.out HNE.out HZ.out)
                   have T3 := Lib.hid (below_put BX.out _ 0 (.slice A2 m d2) HZG.out)
                   clear q0 f0
                   refine at_world13 9 9 rfl rfl (fun gd _ Z => Hid (Z.heap[gd]? = some (baseBox A2 m d2)) ∧ Hid (RdB Z A2 m d2 Q1) ∧ Hid (Below w5.heap.size w5 Z)) ⟨T1, T2, T3⟩ ?_
                   rintro Z ⟨y1, y2, y3⟩
                   go_wp2_with fail
                   go_meet
                   exact ⟨_, _, _, rfl, y1, y2, y3⟩)
          case rest =>
          obtain ⟨g9, A9, d9, rfl, hR, hRd, hbb⟩ := hcut
          have R9 := hR; have RB9 := hRd; have b := hbb.out
          clear hR hRd hbb
          replace R0 := Lib.hid (row_below R0.out b)
          replace R1 := Lib.hid (row_below R1.out b)
          replace R2 := Lib.hid (row_below R2.out b)
          replace RB := Lib.hid (RB.out.below dataR_keeps b)
          replace HU := Lib.hid (HU.out.below b)
          replace HV := Lib.hid (HV.out.below b)
          replace HB := Lib.hid (below_then HB.out b)
          clear b
          generalize wc = w6 at R0 R1 R2 R9 RB HU HV RB9 HB ⊢
          go_upto_region 4 with fail
          go_cut [10] from 59 to 67 (fun s wz => ∃ gd A' d', s = .pointer (some ⟨gd, 0, none⟩) ∧ Hid (wz.heap[gd]? = some (baseBox A' m d')) ∧ Hid (RdB wz A' m d' Q1) ∧ Hid (Below w6.heap.size w6 wz))
          case first =>
            have R1_0 := base_row R1.out
            have R2_0 := cell_row R2.out 0
            have R2_1 := cell_row R2.out 1
            have R2_2 := cell_row R2.out 2
            have R2_3 := cell_row R2.out 3
            have R2_4 := cell_row R2.out 4
            have R2_5 := cell_row R2.out 5
            try dsimp only [Array.getElem?_toList] at R2_0 R2_1 R2_2 R2_3 R2_4 R2_5
            have C1 : Hid (∀ W, Below w6.heap.size w6 W → Calls Tryz.prog 18 #[.agg #[.slice B m d], .int .i64 t, .agg #[.int .i64 v.key, .slice v.ca v.cn v.cc, .slice v.ba v.bn v.bc]] W fun e w' => ∃ (za : Option Addr) (zc : Nat), e = .returned (.agg #[.slice za m zc]) ∧ RdB w' za m zc P2 ∧ Below W.heap.size W w') := fun W hW => put_is (RB.out.below dataR_keeps hW) HF.out.ok (HV.out.below hW) HSv.out.ok hP2
            have C2 : Hid (∀ W za zc, Below w6.heap.size w6 W → RdB W za m zc P2 → Calls Tryz.prog 18 #[.agg #[.slice za m zc], .int .i64 t, .agg #[.int .i64 u.key, .slice u.ca u.cn u.cc, .slice u.ba u.bn u.bc]] W fun e w' => ∃ (ya : Option Addr) (yc : Nat), e = .returned (.agg #[.slice ya m yc]) ∧ RdB w' ya m yc Q1 ∧ (∀ a, ya = some a → W.heap.size ≤ a.block) ∧ Below W.heap.size W w') := fun W za zc hW h => putF_is h O2.out (HU.out.below hW) HSu.out.ok hQ3
            have hS0 : Below w6.heap.size w6 w6 ∧ World.cell? w6 ⟨w.heap.size + 1, 0, none⟩ = some (.slice B m d) ∧ World.cell? w6 ⟨w.heap.size + 1 + 1, 0, none⟩ = some (.int .i64 u.key) ∧ World.cell? w6 ⟨w.heap.size + 1 + 1, 1, none⟩ = some (.slice u.ca u.cn u.cc) ∧ World.cell? w6 ⟨w.heap.size + 1 + 1, 2, none⟩ = some (.slice u.ba u.bn u.bc) ∧ World.cell? w6 ⟨w.heap.size + 1 + 1, 3, none⟩ = some (.int .i64 v.key) ∧ World.cell? w6 ⟨w.heap.size + 1 + 1, 4, none⟩ = some (.slice v.ca v.cn v.cc) ∧ World.cell? w6 ⟨w.heap.size + 1 + 1, 5, none⟩ = some (.slice v.ba v.bn v.bc) := ⟨Below.refl _ _, R1_0, R2_0, R2_1, R2_2, R2_3, R2_4, R2_5⟩
            have K : Hid (∀ W W' : World, (Below w6.heap.size w6 W ∧ World.cell? W ⟨w.heap.size + 1, 0, none⟩ = some (.slice B m d) ∧ World.cell? W ⟨w.heap.size + 1 + 1, 0, none⟩ = some (.int .i64 u.key) ∧ World.cell? W ⟨w.heap.size + 1 + 1, 1, none⟩ = some (.slice u.ca u.cn u.cc) ∧ World.cell? W ⟨w.heap.size + 1 + 1, 2, none⟩ = some (.slice u.ba u.bn u.bc) ∧ World.cell? W ⟨w.heap.size + 1 + 1, 3, none⟩ = some (.int .i64 v.key) ∧ World.cell? W ⟨w.heap.size + 1 + 1, 4, none⟩ = some (.slice v.ca v.cn v.cc) ∧ World.cell? W ⟨w.heap.size + 1 + 1, 5, none⟩ = some (.slice v.ba v.bn v.bc)) → Below W.heap.size W W' → (Below w6.heap.size w6 W' ∧ World.cell? W' ⟨w.heap.size + 1, 0, none⟩ = some (.slice B m d) ∧ World.cell? W' ⟨w.heap.size + 1 + 1, 0, none⟩ = some (.int .i64 u.key) ∧ World.cell? W' ⟨w.heap.size + 1 + 1, 1, none⟩ = some (.slice u.ca u.cn u.cc) ∧ World.cell? W' ⟨w.heap.size + 1 + 1, 2, none⟩ = some (.slice u.ba u.bn u.bc) ∧ World.cell? W' ⟨w.heap.size + 1 + 1, 3, none⟩ = some (.int .i64 v.key) ∧ World.cell? W' ⟨w.heap.size + 1 + 1, 4, none⟩ = some (.slice v.ca v.cn v.cc) ∧ World.cell? W' ⟨w.heap.size + 1 + 1, 5, none⟩ = some (.slice v.ba v.bn v.bc))) := by
              show ∀ W W' : World, _
              rintro W W' ⟨kb, k0, k1, k2, k3, k4, k5, k6⟩ hb
              exact ⟨below_then kb hb, (hb.cell (World.block_lt_of_cell? _ _ k0)).trans k0, (hb.cell (World.block_lt_of_cell? _ _ k1)).trans k1, (hb.cell (World.block_lt_of_cell? _ _ k2)).trans k2, (hb.cell (World.block_lt_of_cell? _ _ k3)).trans k3, (hb.cell (World.block_lt_of_cell? _ _ k4)).trans k4, (hb.cell (World.block_lt_of_cell? _ _ k5)).trans k5, (hb.cell (World.block_lt_of_cell? _ _ k6)).trans k6⟩
            have KA : Hid (∀ W, Below w6.heap.size w6 W → (Below w6.heap.size w6 W ∧ World.cell? W ⟨w.heap.size + 1, 0, none⟩ = some (.slice B m d) ∧ World.cell? W ⟨w.heap.size + 1 + 1, 0, none⟩ = some (.int .i64 u.key) ∧ World.cell? W ⟨w.heap.size + 1 + 1, 1, none⟩ = some (.slice u.ca u.cn u.cc) ∧ World.cell? W ⟨w.heap.size + 1 + 1, 2, none⟩ = some (.slice u.ba u.bn u.bc) ∧ World.cell? W ⟨w.heap.size + 1 + 1, 3, none⟩ = some (.int .i64 v.key) ∧ World.cell? W ⟨w.heap.size + 1 + 1, 4, none⟩ = some (.slice v.ca v.cn v.cc) ∧ World.cell? W ⟨w.heap.size + 1 + 1, 5, none⟩ = some (.slice v.ba v.bn v.bc))) := fun W hb => K.out _ _ hS0 hb
            have BX := Lib.hid (Below.refl w6.heap.size w6)
            have HZG := Lib.hid (Nat.le_refl w6.heap.size)
            have m1 : True := trivial
            have m2 : True := trivial
            clear R1_0 R2_0 R2_1 R2_2 R2_3 R2_4 R2_5
            clear R0 R1 R2 R9 RB HU HV RB9 HB HSu HSv HF
            go_region_held3 (fun W => Below w6.heap.size w6 W ∧ World.cell? W ⟨w.heap.size + 1, 0, none⟩ = some (.slice B m d) ∧ World.cell? W ⟨w.heap.size + 1 + 1, 0, none⟩ = some (.int .i64 u.key) ∧ World.cell? W ⟨w.heap.size + 1 + 1, 1, none⟩ = some (.slice u.ca u.cn u.cc) ∧ World.cell? W ⟨w.heap.size + 1 + 1, 2, none⟩ = some (.slice u.ba u.bn u.bc) ∧ World.cell? W ⟨w.heap.size + 1 + 1, 3, none⟩ = some (.int .i64 v.key) ∧ World.cell? W ⟨w.heap.size + 1 + 1, 4, none⟩ = some (.slice v.ca v.cn v.cc) ∧ World.cell? W ⟨w.heap.size + 1 + 1, 5, none⟩ = some (.slice v.ba v.bn v.bc))
              (first
                | with_reducible exact K.out _ _ hS0 ((Below.refl _ _).drew)
                | with_reducible exact KA.out _ (below_new BX.out _)
                | with_reducible exact KA.out _ (below_put BX.out _ _ _ HZG.out)
                | with_reducible exact KA.out _ BX.out
                | with_reducible exact KA.out _ (below_new (Below.refl _ _) _)
                | with_reducible exact KA.out _ (below_new (Below.refl _ _) _).drew
                | with_reducible exact KA.out _ (below_new (Below.refl _ _).drew _)
                | with_reducible assumption
                | fail "S?")
              (first
                | (go_at_call 18
                   clear m1
                   refine (C1.out _ (by first | exact Below.refl _ _ | exact (Below.refl _ _).drew | (go_split_ands; assumption))).mono ?_
                   rintro e wq1 ⟨A1, d1, rfl, hri, bb⟩
                   have bx : Below w6.heap.size w6 wq1 := below_then (by first | exact Below.refl _ _ | exact (Below.refl _ _).drew | (go_split_ands; assumption)) bb
                   have QQ1 := Lib.hid hri
                   clear hri
                   first
                   | (have hz9 := Lib.hid (row_below HZ.out bb); clear HZ; have HZ := hz9; clear hz9)
                   | (refine use_row13 (g := w6.heap.size) (o := baseBox none 0 0) bb ?hrow (fun rr hlt => ?_)
                      case hrow =>
                        repeat (first | assumption | (with_reducible refine heap_at13 ?_; first | done | omega | (simp only [World.size_alloc]; omega)) | with_reducible refine heap_drew13 ?_ | (with_reducible refine heap_past13 ?_ ?_; focus (first | done | omega | (simp only [World.size_alloc]; omega))))
                        done
                      have HZ := Lib.hid rr
                      replace HZG := Lib.hid (show w6.heap.size ≤ w6.heap.size from Nat.le_refl _)
                      clear rr hlt)
                   | skip
                   replace BX := Lib.hid bx
                   clear bx bb)
                | (go_at_call 18
                   clear m2
                   refine (C2.out _ _ _ (by go_split_ands; assumption) (by first | exact QQ1.out | exact base_alloc QQ1.out _)).mono ?_
                   rintro e wq2 ⟨A2, d2, rfl, hri, hfr, bb⟩
                   have bx : Below w6.heap.size w6 wq2 := below_then (by first | exact Below.refl _ _ | exact (Below.refl _ _).drew | (go_split_ands; assumption)) bb
                   have QQ2 := Lib.hid hri
                   clear hri
                   first
                   | (have hne : ∀ p, A2 = some p → p.block ≠ w6.heap.size := fun p hp => by have h1 := hfr p hp; have h2 := row_lt HZ.out; (try simp only [World.size_alloc] at h1); omega
                      have hz9 := Lib.hid (row_below HZ.out bb); clear HZ; have HZ := hz9; clear hz9; have HNE := Lib.hid hne; clear hne)
                   | (refine use_row13 (g := wq1.heap.size) (o := baseBox none 0 0) bb ?hrow (fun rr hlt => ?_)
                      case hrow =>
                        repeat (first | assumption | (with_reducible refine heap_at13 ?_; first | done | omega | (simp only [World.size_alloc]; omega)) | with_reducible refine heap_drew13 ?_ | (with_reducible refine heap_past13 ?_ ?_; focus (first | done | omega | (simp only [World.size_alloc]; omega))))
                        done
                      have HZ := Lib.hid rr
                      replace HZG := Lib.hid (show w6.heap.size ≤ wq1.heap.size from BX.out.size)
                      have HNE : Hid (∀ p, A2 = some p → p.block ≠ wq1.heap.size) := fun p hp => by have h1 := hfr p hp; omega
                      clear rr hlt)
                   | skip
                   replace BX := Lib.hid bx
                   clear bx bb hfr
                   (try (have q0 := base_row HZ.out; have f0 := frozen_row HZ.out))))
            all_goals
              first
                | (fail_if_success (have hq9 := HZ)
                   have T1 := Lib.hid (heap_alloc_new wq2 (baseBox A2 m d2))
                   have T2 := Lib.hid (base_alloc QQ2.out (baseBox A2 m d2))
                   have T3 := Lib.hid (below_new BX.out (baseBox A2 m d2))
                   refine at_world13 10 10 rfl rfl (fun gd _ Z => Hid (Z.heap[gd]? = some (baseBox A2 m d2)) ∧ Hid (RdB Z A2 m d2 Q1) ∧ Hid (Below w6.heap.size w6 Z)) ⟨T1, T2, T3⟩ ?_
                   rintro Z ⟨y1, y2, y3⟩
                   go_wp2_with fail
                   go_meet
                   exact ⟨_, _, _, rfl, y1, y2, y3⟩)
                | (have T1 := Lib.hid (set1row (x := .slice A2 m d2) HZ.out)
                   have T2 := Lib.hid (base_set (x := .slice A2 m d2) QQ2.out HNE.out HZ.out)
                   have T3 := Lib.hid (below_put BX.out _ 0 (.slice A2 m d2) HZG.out)
                   clear q0 f0
                   refine at_world13 10 10 rfl rfl (fun gd _ Z => Hid (Z.heap[gd]? = some (baseBox A2 m d2)) ∧ Hid (RdB Z A2 m d2 Q1) ∧ Hid (Below w6.heap.size w6 Z)) ⟨T1, T2, T3⟩ ?_
                   rintro Z ⟨y1, y2, y3⟩
                   go_wp2_with fail
                   go_meet
                   exact ⟨_, _, _, rfl, y1, y2, y3⟩)
          case rest =>
          obtain ⟨g10, A10, d10, rfl, hR, hRd, hbb⟩ := hcut
          have R10 := hR; have RB10 := hRd; have b := hbb.out
          clear hR hRd hbb
          replace R0 := Lib.hid (row_below R0.out b)
          replace R1 := Lib.hid (row_below R1.out b)
          replace R2 := Lib.hid (row_below R2.out b)
          replace R9 := Lib.hid (row_below R9.out b)
          replace RB := Lib.hid (RB.out.below dataR_keeps b)
          replace HU := Lib.hid (HU.out.below b)
          replace HV := Lib.hid (HV.out.below b)
          replace RB9 := Lib.hid (RB9.out.below dataR_keeps b)
          replace HB := Lib.hid (below_then HB.out b)
          clear b
          generalize wc = w7 at R0 R1 R2 R9 R10 RB HU HV RB9 RB10 HB ⊢
          go_upto_region 5 with fail
          go_cut [11] from 68 to 77 (fun s wz => ∃ gd A' d', s = .pointer (some ⟨gd, 0, none⟩) ∧ Hid (wz.heap[gd]? = some (baseBox A' m d')) ∧ Hid (RdB wz A' m d' Q2) ∧ Hid (Below w7.heap.size w7 wz))
          case first =>
            have R1_0 := base_row R1.out
            have R2_0 := cell_row R2.out 0
            have R2_1 := cell_row R2.out 1
            have R2_2 := cell_row R2.out 2
            have R2_3 := cell_row R2.out 3
            have R2_4 := cell_row R2.out 4
            have R2_5 := cell_row R2.out 5
            try dsimp only [Array.getElem?_toList] at R2_0 R2_1 R2_2 R2_3 R2_4 R2_5
            have C1 : Hid (∀ W, Below w7.heap.size w7 W → Calls Tryz.prog 18 #[.agg #[.slice B m d], .int .i64 t, .agg #[.int .i64 u.key, .slice u.ca u.cn u.cc, .slice u.ba u.bn u.bc]] W fun e w' => ∃ (za : Option Addr) (zc : Nat), e = .returned (.agg #[.slice za m zc]) ∧ RdB w' za m zc P1 ∧ Below W.heap.size W w') := fun W hW => put_is (RB.out.below dataR_keeps hW) HF.out.ok (HU.out.below hW) HSu.out.ok hP1
            have C2 : Hid (∀ W za zc, Below w7.heap.size w7 W → RdB W za m zc P1 → Calls Tryz.prog 20 #[.agg #[.slice za m zc], .int .i64 t, .int .i64 v.key] W fun e w' => ∃ (ya : Option Addr) (yc : Nat), e = .returned (.agg #[.slice ya m yc]) ∧ RdB w' ya m yc Q2 ∧ (∀ a, ya = some a → W.heap.size ≤ a.block) ∧ Below W.heap.size W w') := fun W za zc hW h => dropF_is h O1.out hQ2
            have hS0 : Below w7.heap.size w7 w7 ∧ World.cell? w7 ⟨w.heap.size + 1, 0, none⟩ = some (.slice B m d) ∧ World.cell? w7 ⟨w.heap.size + 1 + 1, 0, none⟩ = some (.int .i64 u.key) ∧ World.cell? w7 ⟨w.heap.size + 1 + 1, 1, none⟩ = some (.slice u.ca u.cn u.cc) ∧ World.cell? w7 ⟨w.heap.size + 1 + 1, 2, none⟩ = some (.slice u.ba u.bn u.bc) ∧ World.cell? w7 ⟨w.heap.size + 1 + 1, 3, none⟩ = some (.int .i64 v.key) ∧ World.cell? w7 ⟨w.heap.size + 1 + 1, 4, none⟩ = some (.slice v.ca v.cn v.cc) ∧ World.cell? w7 ⟨w.heap.size + 1 + 1, 5, none⟩ = some (.slice v.ba v.bn v.bc) := ⟨Below.refl _ _, R1_0, R2_0, R2_1, R2_2, R2_3, R2_4, R2_5⟩
            have K : Hid (∀ W W' : World, (Below w7.heap.size w7 W ∧ World.cell? W ⟨w.heap.size + 1, 0, none⟩ = some (.slice B m d) ∧ World.cell? W ⟨w.heap.size + 1 + 1, 0, none⟩ = some (.int .i64 u.key) ∧ World.cell? W ⟨w.heap.size + 1 + 1, 1, none⟩ = some (.slice u.ca u.cn u.cc) ∧ World.cell? W ⟨w.heap.size + 1 + 1, 2, none⟩ = some (.slice u.ba u.bn u.bc) ∧ World.cell? W ⟨w.heap.size + 1 + 1, 3, none⟩ = some (.int .i64 v.key) ∧ World.cell? W ⟨w.heap.size + 1 + 1, 4, none⟩ = some (.slice v.ca v.cn v.cc) ∧ World.cell? W ⟨w.heap.size + 1 + 1, 5, none⟩ = some (.slice v.ba v.bn v.bc)) → Below W.heap.size W W' → (Below w7.heap.size w7 W' ∧ World.cell? W' ⟨w.heap.size + 1, 0, none⟩ = some (.slice B m d) ∧ World.cell? W' ⟨w.heap.size + 1 + 1, 0, none⟩ = some (.int .i64 u.key) ∧ World.cell? W' ⟨w.heap.size + 1 + 1, 1, none⟩ = some (.slice u.ca u.cn u.cc) ∧ World.cell? W' ⟨w.heap.size + 1 + 1, 2, none⟩ = some (.slice u.ba u.bn u.bc) ∧ World.cell? W' ⟨w.heap.size + 1 + 1, 3, none⟩ = some (.int .i64 v.key) ∧ World.cell? W' ⟨w.heap.size + 1 + 1, 4, none⟩ = some (.slice v.ca v.cn v.cc) ∧ World.cell? W' ⟨w.heap.size + 1 + 1, 5, none⟩ = some (.slice v.ba v.bn v.bc))) := by
              show ∀ W W' : World, _
              rintro W W' ⟨kb, k0, k1, k2, k3, k4, k5, k6⟩ hb
              exact ⟨below_then kb hb, (hb.cell (World.block_lt_of_cell? _ _ k0)).trans k0, (hb.cell (World.block_lt_of_cell? _ _ k1)).trans k1, (hb.cell (World.block_lt_of_cell? _ _ k2)).trans k2, (hb.cell (World.block_lt_of_cell? _ _ k3)).trans k3, (hb.cell (World.block_lt_of_cell? _ _ k4)).trans k4, (hb.cell (World.block_lt_of_cell? _ _ k5)).trans k5, (hb.cell (World.block_lt_of_cell? _ _ k6)).trans k6⟩
            have KA : Hid (∀ W, Below w7.heap.size w7 W → (Below w7.heap.size w7 W ∧ World.cell? W ⟨w.heap.size + 1, 0, none⟩ = some (.slice B m d) ∧ World.cell? W ⟨w.heap.size + 1 + 1, 0, none⟩ = some (.int .i64 u.key) ∧ World.cell? W ⟨w.heap.size + 1 + 1, 1, none⟩ = some (.slice u.ca u.cn u.cc) ∧ World.cell? W ⟨w.heap.size + 1 + 1, 2, none⟩ = some (.slice u.ba u.bn u.bc) ∧ World.cell? W ⟨w.heap.size + 1 + 1, 3, none⟩ = some (.int .i64 v.key) ∧ World.cell? W ⟨w.heap.size + 1 + 1, 4, none⟩ = some (.slice v.ca v.cn v.cc) ∧ World.cell? W ⟨w.heap.size + 1 + 1, 5, none⟩ = some (.slice v.ba v.bn v.bc))) := fun W hb => K.out _ _ hS0 hb
            have BX := Lib.hid (Below.refl w7.heap.size w7)
            have HZG := Lib.hid (Nat.le_refl w7.heap.size)
            have m1 : True := trivial
            have m2 : True := trivial
            clear R1_0 R2_0 R2_1 R2_2 R2_3 R2_4 R2_5
            clear R0 R1 R2 R9 R10 RB HU HV RB9 RB10 HB HSu HSv HF
            go_region_held3 (fun W => Below w7.heap.size w7 W ∧ World.cell? W ⟨w.heap.size + 1, 0, none⟩ = some (.slice B m d) ∧ World.cell? W ⟨w.heap.size + 1 + 1, 0, none⟩ = some (.int .i64 u.key) ∧ World.cell? W ⟨w.heap.size + 1 + 1, 1, none⟩ = some (.slice u.ca u.cn u.cc) ∧ World.cell? W ⟨w.heap.size + 1 + 1, 2, none⟩ = some (.slice u.ba u.bn u.bc) ∧ World.cell? W ⟨w.heap.size + 1 + 1, 3, none⟩ = some (.int .i64 v.key) ∧ World.cell? W ⟨w.heap.size + 1 + 1, 4, none⟩ = some (.slice v.ca v.cn v.cc) ∧ World.cell? W ⟨w.heap.size + 1 + 1, 5, none⟩ = some (.slice v.ba v.bn v.bc))
              (first
                | with_reducible exact K.out _ _ hS0 ((Below.refl _ _).drew)
                | with_reducible exact KA.out _ (below_new BX.out _)
                | with_reducible exact KA.out _ (below_put BX.out _ _ _ HZG.out)
                | with_reducible exact KA.out _ BX.out
                | with_reducible exact KA.out _ (below_new (Below.refl _ _) _)
                | with_reducible exact KA.out _ (below_new (Below.refl _ _) _).drew
                | with_reducible exact KA.out _ (below_new (Below.refl _ _).drew _)
                | with_reducible assumption
                | fail "S?")
              (first
                | (go_at_call 18
                   clear m1
                   refine (C1.out _ (by first | exact Below.refl _ _ | exact (Below.refl _ _).drew | (go_split_ands; assumption))).mono ?_
                   rintro e wq1 ⟨A1, d1, rfl, hri, bb⟩
                   have bx : Below w7.heap.size w7 wq1 := below_then (by first | exact Below.refl _ _ | exact (Below.refl _ _).drew | (go_split_ands; assumption)) bb
                   have QQ1 := Lib.hid hri
                   clear hri
                   first
                   | (have hz9 := Lib.hid (row_below HZ.out bb); clear HZ; have HZ := hz9; clear hz9)
                   | (refine use_row13 (g := w7.heap.size) (o := baseBox none 0 0) bb ?hrow (fun rr hlt => ?_)
                      case hrow =>
                        repeat (first | assumption | (with_reducible refine heap_at13 ?_; first | done | omega | (simp only [World.size_alloc]; omega)) | with_reducible refine heap_drew13 ?_ | (with_reducible refine heap_past13 ?_ ?_; focus (first | done | omega | (simp only [World.size_alloc]; omega))))
                        done
                      have HZ := Lib.hid rr
                      replace HZG := Lib.hid (show w7.heap.size ≤ w7.heap.size from Nat.le_refl _)
                      clear rr hlt)
                   | skip
                   replace BX := Lib.hid bx
                   clear bx bb)
                | (go_at_call 20
                   clear m2
                   refine (C2.out _ _ _ (by go_split_ands; assumption) (by first | exact QQ1.out | exact base_alloc QQ1.out _)).mono ?_
                   rintro e wq2 ⟨A2, d2, rfl, hri, hfr, bb⟩
                   have bx : Below w7.heap.size w7 wq2 := below_then (by first | exact Below.refl _ _ | exact (Below.refl _ _).drew | (go_split_ands; assumption)) bb
                   have QQ2 := Lib.hid hri
                   clear hri
                   first
                   | (have hne : ∀ p, A2 = some p → p.block ≠ w7.heap.size := fun p hp => by have h1 := hfr p hp; have h2 := row_lt HZ.out; (try simp only [World.size_alloc] at h1); omega
                      have hz9 := Lib.hid (row_below HZ.out bb); clear HZ; have HZ := hz9; clear hz9; have HNE := Lib.hid hne; clear hne)
                   | (refine use_row13 (g := wq1.heap.size) (o := baseBox none 0 0) bb ?hrow (fun rr hlt => ?_)
                      case hrow =>
                        repeat (first | assumption | (with_reducible refine heap_at13 ?_; first | done | omega | (simp only [World.size_alloc]; omega)) | with_reducible refine heap_drew13 ?_ | (with_reducible refine heap_past13 ?_ ?_; focus (first | done | omega | (simp only [World.size_alloc]; omega))))
                        done
                      have HZ := Lib.hid rr
                      replace HZG := Lib.hid (show w7.heap.size ≤ wq1.heap.size from BX.out.size)
                      have HNE : Hid (∀ p, A2 = some p → p.block ≠ wq1.heap.size) := fun p hp => by have h1 := hfr p hp; omega
                      clear rr hlt)
                   | skip
                   replace BX := Lib.hid bx
                   clear bx bb hfr
                   (try (have q0 := base_row HZ.out; have f0 := frozen_row HZ.out))))
            all_goals
              first
                | (fail_if_success (have hq9 := HZ)
                   have T1 := Lib.hid (heap_alloc_new wq2 (baseBox A2 m d2))
                   have T2 := Lib.hid (base_alloc QQ2.out (baseBox A2 m d2))
                   have T3 := Lib.hid (below_new BX.out (baseBox A2 m d2))
                   refine at_world13 11 11 rfl rfl (fun gd _ Z => Hid (Z.heap[gd]? = some (baseBox A2 m d2)) ∧ Hid (RdB Z A2 m d2 Q2) ∧ Hid (Below w7.heap.size w7 Z)) ⟨T1, T2, T3⟩ ?_
                   rintro Z ⟨y1, y2, y3⟩
                   go_wp2_with fail
                   go_meet
                   exact ⟨_, _, _, rfl, y1, y2, y3⟩)
                | (have T1 := Lib.hid (set1row (x := .slice A2 m d2) HZ.out)
                   have T2 := Lib.hid (base_set (x := .slice A2 m d2) QQ2.out HNE.out HZ.out)
                   have T3 := Lib.hid (below_put BX.out _ 0 (.slice A2 m d2) HZG.out)
                   clear q0 f0
                   refine at_world13 11 11 rfl rfl (fun gd _ Z => Hid (Z.heap[gd]? = some (baseBox A2 m d2)) ∧ Hid (RdB Z A2 m d2 Q2) ∧ Hid (Below w7.heap.size w7 Z)) ⟨T1, T2, T3⟩ ?_
                   rintro Z ⟨y1, y2, y3⟩
                   go_wp2_with fail
                   go_meet
                   exact ⟨_, _, _, rfl, y1, y2, y3⟩)
          case rest =>
          obtain ⟨g11, A11, d11, rfl, hR, hRd, hbb⟩ := hcut
          have R11 := hR; have RB11 := hRd; have b := hbb.out
          clear hR hRd hbb
          replace R0 := Lib.hid (row_below R0.out b)
          replace R1 := Lib.hid (row_below R1.out b)
          replace R2 := Lib.hid (row_below R2.out b)
          replace R9 := Lib.hid (row_below R9.out b)
          replace R10 := Lib.hid (row_below R10.out b)
          replace RB := Lib.hid (RB.out.below dataR_keeps b)
          replace HU := Lib.hid (HU.out.below b)
          replace HV := Lib.hid (HV.out.below b)
          replace RB9 := Lib.hid (RB9.out.below dataR_keeps b)
          replace RB10 := Lib.hid (RB10.out.below dataR_keeps b)
          replace HB := Lib.hid (below_then HB.out b)
          clear b
          generalize wc = w8 at R0 R1 R2 R9 R10 R11 RB HU HV RB9 RB10 RB11 HB ⊢
          go_upto_region 6 with fail
          go_cut [12] from 78 to 87 (fun s wz => ∃ gd A' d', s = .pointer (some ⟨gd, 0, none⟩) ∧ Hid (wz.heap[gd]? = some (baseBox A' m d')) ∧ Hid (RdB wz A' m d' Q2) ∧ Hid (Below w8.heap.size w8 wz))
          case first =>
            have R1_0 := base_row R1.out
            have R2_0 := cell_row R2.out 0
            have R2_1 := cell_row R2.out 1
            have R2_2 := cell_row R2.out 2
            have R2_3 := cell_row R2.out 3
            have R2_4 := cell_row R2.out 4
            have R2_5 := cell_row R2.out 5
            try dsimp only [Array.getElem?_toList] at R2_0 R2_1 R2_2 R2_3 R2_4 R2_5
            have C1 : Hid (∀ W, Below w8.heap.size w8 W → Calls Tryz.prog 20 #[.agg #[.slice B m d], .int .i64 t, .int .i64 v.key] W fun e w' => ∃ (za : Option Addr) (zc : Nat), e = .returned (.agg #[.slice za m zc]) ∧ RdB w' za m zc P3 ∧ Below W.heap.size W w') := fun W hW => drop_is (RB.out.below dataR_keeps hW) HF.out.ok hP3
            have C2 : Hid (∀ W za zc, Below w8.heap.size w8 W → RdB W za m zc P3 → Calls Tryz.prog 18 #[.agg #[.slice za m zc], .int .i64 t, .agg #[.int .i64 u.key, .slice u.ca u.cn u.cc, .slice u.ba u.bn u.bc]] W fun e w' => ∃ (ya : Option Addr) (yc : Nat), e = .returned (.agg #[.slice ya m yc]) ∧ RdB w' ya m yc Q2 ∧ (∀ a, ya = some a → W.heap.size ≤ a.block) ∧ Below W.heap.size W w') := fun W za zc hW h => putF_is h O3.out (HU.out.below hW) HSu.out.ok hQ4
            have hS0 : Below w8.heap.size w8 w8 ∧ World.cell? w8 ⟨w.heap.size + 1, 0, none⟩ = some (.slice B m d) ∧ World.cell? w8 ⟨w.heap.size + 1 + 1, 0, none⟩ = some (.int .i64 u.key) ∧ World.cell? w8 ⟨w.heap.size + 1 + 1, 1, none⟩ = some (.slice u.ca u.cn u.cc) ∧ World.cell? w8 ⟨w.heap.size + 1 + 1, 2, none⟩ = some (.slice u.ba u.bn u.bc) ∧ World.cell? w8 ⟨w.heap.size + 1 + 1, 3, none⟩ = some (.int .i64 v.key) ∧ World.cell? w8 ⟨w.heap.size + 1 + 1, 4, none⟩ = some (.slice v.ca v.cn v.cc) ∧ World.cell? w8 ⟨w.heap.size + 1 + 1, 5, none⟩ = some (.slice v.ba v.bn v.bc) := ⟨Below.refl _ _, R1_0, R2_0, R2_1, R2_2, R2_3, R2_4, R2_5⟩
            have K : Hid (∀ W W' : World, (Below w8.heap.size w8 W ∧ World.cell? W ⟨w.heap.size + 1, 0, none⟩ = some (.slice B m d) ∧ World.cell? W ⟨w.heap.size + 1 + 1, 0, none⟩ = some (.int .i64 u.key) ∧ World.cell? W ⟨w.heap.size + 1 + 1, 1, none⟩ = some (.slice u.ca u.cn u.cc) ∧ World.cell? W ⟨w.heap.size + 1 + 1, 2, none⟩ = some (.slice u.ba u.bn u.bc) ∧ World.cell? W ⟨w.heap.size + 1 + 1, 3, none⟩ = some (.int .i64 v.key) ∧ World.cell? W ⟨w.heap.size + 1 + 1, 4, none⟩ = some (.slice v.ca v.cn v.cc) ∧ World.cell? W ⟨w.heap.size + 1 + 1, 5, none⟩ = some (.slice v.ba v.bn v.bc)) → Below W.heap.size W W' → (Below w8.heap.size w8 W' ∧ World.cell? W' ⟨w.heap.size + 1, 0, none⟩ = some (.slice B m d) ∧ World.cell? W' ⟨w.heap.size + 1 + 1, 0, none⟩ = some (.int .i64 u.key) ∧ World.cell? W' ⟨w.heap.size + 1 + 1, 1, none⟩ = some (.slice u.ca u.cn u.cc) ∧ World.cell? W' ⟨w.heap.size + 1 + 1, 2, none⟩ = some (.slice u.ba u.bn u.bc) ∧ World.cell? W' ⟨w.heap.size + 1 + 1, 3, none⟩ = some (.int .i64 v.key) ∧ World.cell? W' ⟨w.heap.size + 1 + 1, 4, none⟩ = some (.slice v.ca v.cn v.cc) ∧ World.cell? W' ⟨w.heap.size + 1 + 1, 5, none⟩ = some (.slice v.ba v.bn v.bc))) := by
              show ∀ W W' : World, _
              rintro W W' ⟨kb, k0, k1, k2, k3, k4, k5, k6⟩ hb
              exact ⟨below_then kb hb, (hb.cell (World.block_lt_of_cell? _ _ k0)).trans k0, (hb.cell (World.block_lt_of_cell? _ _ k1)).trans k1, (hb.cell (World.block_lt_of_cell? _ _ k2)).trans k2, (hb.cell (World.block_lt_of_cell? _ _ k3)).trans k3, (hb.cell (World.block_lt_of_cell? _ _ k4)).trans k4, (hb.cell (World.block_lt_of_cell? _ _ k5)).trans k5, (hb.cell (World.block_lt_of_cell? _ _ k6)).trans k6⟩
            have KA : Hid (∀ W, Below w8.heap.size w8 W → (Below w8.heap.size w8 W ∧ World.cell? W ⟨w.heap.size + 1, 0, none⟩ = some (.slice B m d) ∧ World.cell? W ⟨w.heap.size + 1 + 1, 0, none⟩ = some (.int .i64 u.key) ∧ World.cell? W ⟨w.heap.size + 1 + 1, 1, none⟩ = some (.slice u.ca u.cn u.cc) ∧ World.cell? W ⟨w.heap.size + 1 + 1, 2, none⟩ = some (.slice u.ba u.bn u.bc) ∧ World.cell? W ⟨w.heap.size + 1 + 1, 3, none⟩ = some (.int .i64 v.key) ∧ World.cell? W ⟨w.heap.size + 1 + 1, 4, none⟩ = some (.slice v.ca v.cn v.cc) ∧ World.cell? W ⟨w.heap.size + 1 + 1, 5, none⟩ = some (.slice v.ba v.bn v.bc))) := fun W hb => K.out _ _ hS0 hb
            have BX := Lib.hid (Below.refl w8.heap.size w8)
            have HZG := Lib.hid (Nat.le_refl w8.heap.size)
            have m1 : True := trivial
            have m2 : True := trivial
            clear R1_0 R2_0 R2_1 R2_2 R2_3 R2_4 R2_5
            clear R0 R1 R2 R9 R10 R11 RB HU HV RB9 RB10 RB11 HB HSu HSv HF
            go_region_held3 (fun W => Below w8.heap.size w8 W ∧ World.cell? W ⟨w.heap.size + 1, 0, none⟩ = some (.slice B m d) ∧ World.cell? W ⟨w.heap.size + 1 + 1, 0, none⟩ = some (.int .i64 u.key) ∧ World.cell? W ⟨w.heap.size + 1 + 1, 1, none⟩ = some (.slice u.ca u.cn u.cc) ∧ World.cell? W ⟨w.heap.size + 1 + 1, 2, none⟩ = some (.slice u.ba u.bn u.bc) ∧ World.cell? W ⟨w.heap.size + 1 + 1, 3, none⟩ = some (.int .i64 v.key) ∧ World.cell? W ⟨w.heap.size + 1 + 1, 4, none⟩ = some (.slice v.ca v.cn v.cc) ∧ World.cell? W ⟨w.heap.size + 1 + 1, 5, none⟩ = some (.slice v.ba v.bn v.bc))
              (first
                | with_reducible exact K.out _ _ hS0 ((Below.refl _ _).drew)
                | with_reducible exact KA.out _ (below_new BX.out _)
                | with_reducible exact KA.out _ (below_put BX.out _ _ _ HZG.out)
                | with_reducible exact KA.out _ BX.out
                | with_reducible exact KA.out _ (below_new (Below.refl _ _) _)
                | with_reducible exact KA.out _ (below_new (Below.refl _ _) _).drew
                | with_reducible exact KA.out _ (below_new (Below.refl _ _).drew _)
                | with_reducible assumption
                | fail "S?")
              (first
                | (go_at_call 20
                   clear m1
                   refine (C1.out _ (by first | exact Below.refl _ _ | exact (Below.refl _ _).drew | (go_split_ands; assumption))).mono ?_
                   rintro e wq1 ⟨A1, d1, rfl, hri, bb⟩
                   have bx : Below w8.heap.size w8 wq1 := below_then (by first | exact Below.refl _ _ | exact (Below.refl _ _).drew | (go_split_ands; assumption)) bb
                   have QQ1 := Lib.hid hri
                   clear hri
                   first
                   | (have hz9 := Lib.hid (row_below HZ.out bb); clear HZ; have HZ := hz9; clear hz9)
                   | (refine use_row13 (g := w8.heap.size) (o := baseBox none 0 0) bb ?hrow (fun rr hlt => ?_)
                      case hrow =>
                        repeat (first | assumption | (with_reducible refine heap_at13 ?_; first | done | omega | (simp only [World.size_alloc]; omega)) | with_reducible refine heap_drew13 ?_ | (with_reducible refine heap_past13 ?_ ?_; focus (first | done | omega | (simp only [World.size_alloc]; omega))))
                        done
                      have HZ := Lib.hid rr
                      replace HZG := Lib.hid (show w8.heap.size ≤ w8.heap.size from Nat.le_refl _)
                      clear rr hlt)
                   | skip
                   replace BX := Lib.hid bx
                   clear bx bb)
                | (go_at_call 18
                   clear m2
                   refine (C2.out _ _ _ (by go_split_ands; assumption) (by first | exact QQ1.out | exact base_alloc QQ1.out _)).mono ?_
                   rintro e wq2 ⟨A2, d2, rfl, hri, hfr, bb⟩
                   have bx : Below w8.heap.size w8 wq2 := below_then (by first | exact Below.refl _ _ | exact (Below.refl _ _).drew | (go_split_ands; assumption)) bb
                   have QQ2 := Lib.hid hri
                   clear hri
                   first
                   | (have hne : ∀ p, A2 = some p → p.block ≠ w8.heap.size := fun p hp => by have h1 := hfr p hp; have h2 := row_lt HZ.out; (try simp only [World.size_alloc] at h1); omega
                      have hz9 := Lib.hid (row_below HZ.out bb); clear HZ; have HZ := hz9; clear hz9; have HNE := Lib.hid hne; clear hne)
                   | (refine use_row13 (g := wq1.heap.size) (o := baseBox none 0 0) bb ?hrow (fun rr hlt => ?_)
                      case hrow =>
                        repeat (first | assumption | (with_reducible refine heap_at13 ?_; first | done | omega | (simp only [World.size_alloc]; omega)) | with_reducible refine heap_drew13 ?_ | (with_reducible refine heap_past13 ?_ ?_; focus (first | done | omega | (simp only [World.size_alloc]; omega))))
                        done
                      have HZ := Lib.hid rr
                      replace HZG := Lib.hid (show w8.heap.size ≤ wq1.heap.size from BX.out.size)
                      have HNE : Hid (∀ p, A2 = some p → p.block ≠ wq1.heap.size) := fun p hp => by have h1 := hfr p hp; omega
                      clear rr hlt)
                   | skip
                   replace BX := Lib.hid bx
                   clear bx bb hfr
                   (try (have q0 := base_row HZ.out; have f0 := frozen_row HZ.out))))
            all_goals
              first
                | (fail_if_success (have hq9 := HZ)
                   have T1 := Lib.hid (heap_alloc_new wq2 (baseBox A2 m d2))
                   have T2 := Lib.hid (base_alloc QQ2.out (baseBox A2 m d2))
                   have T3 := Lib.hid (below_new BX.out (baseBox A2 m d2))
                   refine at_world13 12 12 rfl rfl (fun gd _ Z => Hid (Z.heap[gd]? = some (baseBox A2 m d2)) ∧ Hid (RdB Z A2 m d2 Q2) ∧ Hid (Below w8.heap.size w8 Z)) ⟨T1, T2, T3⟩ ?_
                   rintro Z ⟨y1, y2, y3⟩
                   go_wp2_with fail
                   go_meet
                   exact ⟨_, _, _, rfl, y1, y2, y3⟩)
                | (have T1 := Lib.hid (set1row (x := .slice A2 m d2) HZ.out)
                   have T2 := Lib.hid (base_set (x := .slice A2 m d2) QQ2.out HNE.out HZ.out)
                   have T3 := Lib.hid (below_put BX.out _ 0 (.slice A2 m d2) HZG.out)
                   clear q0 f0
                   refine at_world13 12 12 rfl rfl (fun gd _ Z => Hid (Z.heap[gd]? = some (baseBox A2 m d2)) ∧ Hid (RdB Z A2 m d2 Q2) ∧ Hid (Below w8.heap.size w8 Z)) ⟨T1, T2, T3⟩ ?_
                   rintro Z ⟨y1, y2, y3⟩
                   go_wp2_with fail
                   go_meet
                   exact ⟨_, _, _, rfl, y1, y2, y3⟩)
          case rest =>
          obtain ⟨g12, A12, d12, rfl, hR, hRd, hbb⟩ := hcut
          have R12 := hR; have RB12 := hRd; have b := hbb.out
          clear hR hRd hbb
          replace R0 := Lib.hid (row_below R0.out b)
          replace R1 := Lib.hid (row_below R1.out b)
          replace R2 := Lib.hid (row_below R2.out b)
          replace R9 := Lib.hid (row_below R9.out b)
          replace R10 := Lib.hid (row_below R10.out b)
          replace R11 := Lib.hid (row_below R11.out b)
          replace RB := Lib.hid (RB.out.below dataR_keeps b)
          replace HU := Lib.hid (HU.out.below b)
          replace HV := Lib.hid (HV.out.below b)
          replace RB9 := Lib.hid (RB9.out.below dataR_keeps b)
          replace RB10 := Lib.hid (RB10.out.below dataR_keeps b)
          replace RB11 := Lib.hid (RB11.out.below dataR_keeps b)
          replace HB := Lib.hid (below_then HB.out b)
          clear b
          generalize wc = w9 at R0 R1 R2 R9 R10 R11 R12 RB HU HV RB9 RB10 RB11 RB12 HB ⊢
          go_wp2_with fail
          refine (alive13_any _).mono ?_
          rintro e w10 ⟨rfl, b⟩
          replace R0 := Lib.hid (row_below R0.out b)
          replace R1 := Lib.hid (row_below R1.out b)
          replace R2 := Lib.hid (row_below R2.out b)
          replace R9 := Lib.hid (row_below R9.out b)
          replace R10 := Lib.hid (row_below R10.out b)
          replace R11 := Lib.hid (row_below R11.out b)
          replace R12 := Lib.hid (row_below R12.out b)
          replace RB := Lib.hid (RB.out.below dataR_keeps b)
          replace HU := Lib.hid (HU.out.below b)
          replace HV := Lib.hid (HV.out.below b)
          replace RB9 := Lib.hid (RB9.out.below dataR_keeps b)
          replace RB10 := Lib.hid (RB10.out.below dataR_keeps b)
          replace RB11 := Lib.hid (RB11.out.below dataR_keeps b)
          replace RB12 := Lib.hid (RB12.out.below dataR_keeps b)
          replace HB := Lib.hid (below_then HB.out b)
          clear b
          have R9_0 := base_row R9.out
          have R10_0 := base_row R10.out
          go_wp2_with fail
          refine (same_is RB9.out RB10.out rfl).mono ?_
          rintro e w11 ⟨rfl, b⟩
          clear R9_0 R10_0
          replace R0 := Lib.hid (row_below R0.out b)
          replace R1 := Lib.hid (row_below R1.out b)
          replace R2 := Lib.hid (row_below R2.out b)
          replace R9 := Lib.hid (row_below R9.out b)
          replace R10 := Lib.hid (row_below R10.out b)
          replace R11 := Lib.hid (row_below R11.out b)
          replace R12 := Lib.hid (row_below R12.out b)
          replace RB := Lib.hid (RB.out.below dataR_keeps b)
          replace HU := Lib.hid (HU.out.below b)
          replace HV := Lib.hid (HV.out.below b)
          replace RB9 := Lib.hid (RB9.out.below dataR_keeps b)
          replace RB10 := Lib.hid (RB10.out.below dataR_keeps b)
          replace RB11 := Lib.hid (RB11.out.below dataR_keeps b)
          replace RB12 := Lib.hid (RB12.out.below dataR_keeps b)
          replace HB := Lib.hid (below_then HB.out b)
          clear b
          have R11_0 := base_row R11.out
          have R12_0 := base_row R12.out
          go_wp2_with fail
          refine (same_is RB11.out RB12.out rfl).mono ?_
          rintro e w12 ⟨rfl, b⟩
          clear R11_0 R12_0
          replace R0 := Lib.hid (row_below R0.out b)
          replace R1 := Lib.hid (row_below R1.out b)
          replace R2 := Lib.hid (row_below R2.out b)
          replace R9 := Lib.hid (row_below R9.out b)
          replace R10 := Lib.hid (row_below R10.out b)
          replace R11 := Lib.hid (row_below R11.out b)
          replace R12 := Lib.hid (row_below R12.out b)
          replace RB := Lib.hid (RB.out.below dataR_keeps b)
          replace HU := Lib.hid (HU.out.below b)
          replace HV := Lib.hid (HV.out.below b)
          replace RB9 := Lib.hid (RB9.out.below dataR_keeps b)
          replace RB10 := Lib.hid (RB10.out.below dataR_keeps b)
          replace RB11 := Lib.hid (RB11.out.below dataR_keeps b)
          replace RB12 := Lib.hid (RB12.out.below dataR_keeps b)
          replace HB := Lib.hid (below_then HB.out b)
          clear b
          go_wp2_with fail
          go_ret
          exact ⟨rfl, HB.out⟩
set_option maxRecDepth 100000 in
theorem contract (H : Type) (enc : TypeId × Value → H) (W : World) (base : Nat) (args : Array Value) (ds gs : List (DataW H)) (before : List MemPlace)
    (hval : ∀ (j : Nat) t v, Tryz.f7.params[j]? = some t → args[j]? = some v → Value.okWide Tryz.prog W .any base t v)
    (hW : DataW.Whole enc Tryz.prog Tryz.f7.params.toList Rows.baseOrderSpec.vars false W args.toList ds gs before)
    (hsz : (DataW.weightsEach Tryz.prog (Tryz.f7.params.toList ++ Rows.baseOrderSpec.plain.varTypes Tryz.prog) (ds ++ gs)).all (· ≤ reachBytes) = true) :
    Calls Tryz.prog 7 args W fun e W' => ∃ v, e = .returned v ∧ Rows.baseOrderSpec.post enc Tryz.prog Tryz.f7 false true false false W args v W' := by
  have hlt : ∀ x ∈ before, x.block < W.heap.size := fun x hx => by simpa using hW.lt x hx
  refine law_step 4 Tryz.laid_ (by kernel_rfl) rfl Tryz.underlying4 rfl hW (fun xs hx => ?_) ?_
  · match xs, hx with
    | [d0, d1, d2, d3], _ => rfl
  · obtain ⟨p, q, hA0, hV, rfl, _, _⟩ := hW
    have hA : DataW.TrodAll enc Tryz.prog W 0 (fun _ => true) true Tryz.f7.params.toList args.toList ds p := hA0
    rw [Tryz.params7] at hA hval hsz
    obtain ⟨v0, vs0, d0, ds0, p0, q0, e0, rfl, rfl, h0, r0⟩ := trodAll_cons hA
    obtain ⟨v1, vs1, d1, ds1, p1, q1, e1, rfl, rfl, h1, r1⟩ := trodAll_cons r0
    obtain ⟨v2, vs2, d2, ds2, p2, q2, e2, rfl, rfl, h2, r2⟩ := trodAll_cons r1
    obtain ⟨v3, vs3, d3, ds3, p3, q3, e3, rfl, rfl, h3, r3⟩ := trodAll_cons r2
    obtain ⟨rfl, rfl, rfl⟩ := trodAll_nil r3
    subst e3
    subst e2
    subst e1
    obtain rfl : args = #[v0, v1, v2, v3] := by cases args; simp_all
    clear e0 hA0
    have hw0 : ∀ x ∈ d0.weights Tryz.prog 24, x ≤ reachBytes := fun x hx => by simpa using List.all_eq_true.1 hsz _ (DataW.weights_mem_each (j := 0) rfl rfl x hx)
    obtain ⟨A0, n0, c0, l0, rfl, rd0, sm0⟩ := open_schema (hval 0 24 v0 rfl rfl) h0 hw0
    have hw1 : ∀ x ∈ d1.weights Tryz.prog 27, x ≤ reachBytes := fun x hx => by simpa using List.all_eq_true.1 hsz _ (DataW.weights_mem_each (j := 1) rfl rfl x hx)
    obtain ⟨A1, n1, c1, l1, rfl, rd1, sm1⟩ := open_base (hval 1 27 v1 rfl rfl) h1 hw1
    obtain ⟨x2, z2, y2, u2, rfl, rdx2, rdz2⟩ := open_line2 (hval 2 51 v2 rfl rfl) h2
    obtain ⟨t, rfl, rfl, rfl, w3⟩ := open_int Tryz.underlying3 (hval 3 3 v3 rfl rfl) h3
    obtain ⟨lo3, hi3⟩ := wf_i64 w3
    exact walk A0 n0 c0 l0 A1 n1 c1 l1 x2 z2 y2 u2 t W rd0 rd1 sm1 rdx2 rdz2
set_option maxRecDepth 100000 in
theorem lifted (os : Os) (started : os.Started) (H : Type) (enc : TypeId × Value → H) :
    ReturnsInHanded {} Tryz.checked os 7 .any (Rows.baseOrderSpec.pre6 enc Tryz.prog Tryz.f7 Rows.baseOrderRow.domain false) (Rows.baseOrderSpec.post enc Tryz.prog Tryz.f7 false true false false) := by
  refine returnsInHanded_of_change_sized (C := Tryz.checked) Tryz.own_ started (by kernel_rfl) Tryz.func7
    (ChangeSpec.witness6 (enc := enc) (C := Tryz.checked) false ⟨#[], #[.agg #[.slice none 0 0], .agg #[.slice none 0 0], .agg #[.int .i64 0, .slice none 0 0, .slice none 0 0, .int .i64 0, .slice none 0 0, .slice none 0 0], .int .i64 0], []⟩ 8 (by kernel_rfl) (by kernel_rfl) (by kernel_rfl) (by kernel_rfl)) ?_
  intro W base args ds gs before hval hW _ hsz _
  exact contract H enc W base args ds gs before hval hW hsz
theorem holds : Rows.BaseOrderSaid :=
  OpenClaim.holds_of_wide 7 Tryz.f7 rfl rfl rfl rfl rfl rfl rfl ⟨rfl, rfl, rfl, rfl, rfl⟩ rfl rfl rfl rfl rfl (by kernel_rfl) Tryz.func7 (by kernel_rfl)
    (of_decide_eq_true (by kernel_rfl)) (by unfold Func.isWrapper; first | (rw [if_pos (by decide +kernel)]; kernel_rfl) | (rw [if_neg (by decide +kernel)]; exact ⟨rfl, rfl⟩))
    (fun os started H enc _ => lifted os started H enc)
end Go.Proofs.YtfljhnalmiibeaaGreat.baseOrder

