/- Whatever schema, base, line and numbers come in: BasePut answers true: what is put is got, of all other keys what there was is got, put again it changes nothing, and a base that is right stays so, if the line may stand in one that is. No condition. -/
import Derived.Test.YtfljhnalmiibeaaGreatRows
import Derived.Test.YtfljhnalmiibeaaGreatMbMem
import Derived.Test.YtfljhnalmiibeaaGreatMbBasLawM
import Derived.Test.YtfljhnalmiibeaaGreatMbBasOpen
import Derived.Test.YtfljhnalmiibeaaGreatMbVecOpen
namespace Go.Proofs.YtfljhnalmiibeaaGreat.basePut
open Go.ChangeShapes Go.WideShapes Go.ChangeAt Go.RowKit Go.ChangeMaps
set_option maxRecDepth 100000 in
set_option maxHeartbeats 25600000 in
theorem walk (A : Option Addr) (n c : Nat) (l : List T6) (B : Option Addr) (m d : Nat) (b : List (List LQ)) (u : LnR) (yu : LQ) (x y : Int) (w : World) (hs : RdS11 w A n c l) (hb : RdB w B m d b) (hL : ∀ q ∈ b, q.length ≤ 140737488355328) (hu : LineR w u yu) : Calls Tryz.prog 5 #[.agg #[.slice A n c], .agg #[.slice B m d], u.agg, .agg #[.int .i64 x, .int .i64 y]] w fun e w' => e = .returned (.bool true) ∧ Below w.heap.size w w' := by
  have hle := hs.le
  have HN := Lib.hid hs.len
  have HM := Lib.hid hb.len
  obtain ⟨w1, hw1⟩ : ∃ w1, w1 = ((((w.alloc (schBox A n c)).alloc (baseBox B m d)).alloc (lineBox u)).alloc (.cells #[.int .i64 x, .int .i64 y] 33)) := ⟨_, rfl⟩
  have HW1 := Lib.hid hw1
  have HB : Hid (Below w.heap.size w w1) := by rw [hw1]; exact below_new (below_new (below_new (below_new (Below.refl _ _) _) _) _) _
  have R0 : Hid (w1.heap[w.heap.size]? = some (schBox A n c)) := by rw [hw1]; exact old_row13 _ (old_row13 _ (old_row13 _ (new_row13 _ _ rfl)))
  have R1 : Hid (w1.heap[w.heap.size + 1]? = some (baseBox B m d)) := by rw [hw1]; exact old_row13 _ (old_row13 _ (new_row13 _ _ (by simp only [World.size_alloc])))
  have R2 : Hid (w1.heap[w.heap.size + 1 + 1]? = some (lineBox u)) := by rw [hw1]; exact old_row13 _ (new_row13 _ _ (by simp only [World.size_alloc]))
  have R3 : Hid (w1.heap[w.heap.size + 1 + 1 + 1]? = some (.cells #[.int .i64 x, .int .i64 y] 33)) := by rw [hw1]; exact new_row13 _ _ (by simp only [World.size_alloc])
  have HS := Lib.hid (hs.below HB.out)
  have RB := Lib.hid (hb.below dataR_keeps HB.out)
  have HU := Lib.hid (hu.below HB.out)
  clear hw1 hs hb hu
  go_enter Tryz.func5, Tryz.ntmps5
  go_upto_region 1 with fail
  rw [show ((((w.alloc (schBox A n c)).alloc (baseBox B m d)).alloc (lineBox u)).alloc (.cells #[.int .i64 x, .int .i64 y] 33)) = w1 from HW1.out.symm]
  clear HW1
  have R1_0 := base_row R1.out
  go_wp2_with fail
  refine (few13_any B m d b _ RB.out hL).mono ?_
  rintro e w2 ⟨q, rfl, hq, b⟩
  clear R1_0
  replace R0 := Lib.hid (row_below R0.out b)
  replace R1 := Lib.hid (row_below R1.out b)
  replace R2 := Lib.hid (row_below R2.out b)
  replace R3 := Lib.hid (row_below R3.out b)
  replace HS := Lib.hid (HS.out.below b)
  replace RB := Lib.hid (RB.out.below dataR_keeps b)
  replace HU := Lib.hid (HU.out.below b)
  replace HB := Lib.hid (below_then HB.out b)
  clear b hL
  cases q with
  | false =>
    clear hq
    go_wp2_with fail
    refine (alive13_any _).mono ?_
    rintro e wz ⟨rfl, bz⟩
    have HZ := Lib.hid (below_then HB.out bz)
    clear bz
    go_wp2_with fail
    go_ret
    exact ⟨rfl, HZ.out⟩
  | true =>
    have HF : Hid (FewB b) := hq rfl
    clear hq
    obtain ⟨R2_0, R2_1, R2_2⟩ := line_row R2.out
    go_wp2_with fail
    refine (smallP13_any u yu _ HU.out).mono ?_
    rintro e w3 ⟨q, rfl, hq, b⟩
    clear R2_0 R2_1 R2_2
    replace R0 := Lib.hid (row_below R0.out b)
    replace R1 := Lib.hid (row_below R1.out b)
    replace R2 := Lib.hid (row_below R2.out b)
    replace R3 := Lib.hid (row_below R3.out b)
    replace HS := Lib.hid (HS.out.below b)
    replace RB := Lib.hid (RB.out.below dataR_keeps b)
    replace HU := Lib.hid (HU.out.below b)
    replace HB := Lib.hid (below_then HB.out b)
    clear b
    cases q with
    | false =>
      clear hq
      go_wp2_with fail
      refine (alive13_any _).mono ?_
      rintro e wz ⟨rfl, bz⟩
      have HZ := Lib.hid (below_then HB.out bz)
      clear bz
      go_wp2_with fail
      go_ret
      exact ⟨rfl, HZ.out⟩
    | true =>
      have HSu : Hid (SmallL yu) := hq rfl
      clear hq
      have R0_0 := sch_row R0.out
      by_cases hn : (20 : Int) < (n : Int)
      · skip
        go_wp2_with fail
        refine (alive13_any _).mono ?_
        rintro e wz ⟨rfl, bz⟩
        have HZ := Lib.hid (below_then HB.out bz)
        clear bz
        go_wp2_with fail
        go_ret
        exact ⟨rfl, HZ.out⟩
      clear R0_0
      obtain ⟨r, hr⟩ : ∃ r, Hid (baseOk l b = r) := ⟨_, rfl⟩
      have R0_0 := sch_row R0.out
      have R1_0 := base_row R1.out
      go_wp2_with fail
      refine (right_is HS.out RB.out HF.out.ok hr).mono ?_
      rintro e w4 ⟨rfl, b⟩
      clear R0_0 R1_0
      replace R0 := Lib.hid (row_below R0.out b)
      replace R1 := Lib.hid (row_below R1.out b)
      replace R2 := Lib.hid (row_below R2.out b)
      replace R3 := Lib.hid (row_below R3.out b)
      replace HS := Lib.hid (HS.out.below b)
      replace RB := Lib.hid (RB.out.below dataR_keeps b)
      replace HU := Lib.hid (HU.out.below b)
      replace HB := Lib.hid (below_then HB.out b)
      clear b
      cases r with
      | false =>
        clear hr
        go_wp2_with fail
        refine (alive13_any _).mono ?_
        rintro e wz ⟨rfl, bz⟩
        have HZ := Lib.hid (below_then HB.out bz)
        clear bz
        go_wp2_with fail
        go_ret
        exact ⟨rfl, HZ.out⟩
      | true =>
        by_cases hx0 : x < 0
        · skip
          have R3_0 := cell_row R3.out 0
          have R3_1 := cell_row R3.out 1
          try dsimp only [Array.getElem?_toList] at R3_0 R3_1
          go_wp2_with fail
          refine (alive13_any _).mono ?_
          rintro e wz ⟨rfl, bz⟩
          have HZ := Lib.hid (below_then HB.out bz)
          clear bz
          go_wp2_with fail
          go_ret
          exact ⟨rfl, HZ.out⟩
        by_cases hxm : (m : Int) ≤ x
        · skip
          have R3_0 := cell_row R3.out 0
          have R3_1 := cell_row R3.out 1
          try dsimp only [Array.getElem?_toList] at R3_0 R3_1
          have R1_0 := base_row R1.out
          go_wp2_with fail
          refine (alive13_any _).mono ?_
          rintro e wz ⟨rfl, bz⟩
          have HZ := Lib.hid (below_then HB.out bz)
          clear bz
          go_wp2_with fail
          go_ret
          exact ⟨rfl, HZ.out⟩
        have hx1 : x < (m : Int) := by omega
        have h0 : 0 ≤ x := by omega
        have ht : x.toNat < b.length := by have := HM.out; omega
        have HK : Hid (u.key = yu.key) := HU.out.1
        obtain ⟨P, hP⟩ : ∃ P, Hid (putB13 b x yu = P) := ⟨_, rfl⟩
        obtain ⟨Q, hQ⟩ : ∃ Q, Hid (putB13 (List.replicate l.length []) x yu = Q) := ⟨_, rfl⟩
        obtain ⟨o2, q2, ho2⟩ : ∃ o2 q2, Hid (getB13 b x y = o2 ∧ o2.isSome = q2) := ⟨_, _, rfl, rfl⟩
        obtain ⟨o3, q3, ho3⟩ : ∃ o3 q3, Hid (getB13 P x y = o3 ∧ o3.isSome = q3) := ⟨_, _, rfl, rfl⟩
        obtain ⟨r, hr2⟩ : ∃ r, Hid (baseOk l P = r) := ⟨_, rfl⟩
        have ha := right_asc hr.out x
        have GN : Hid (getB13 P x u.key = some yu ∧ (some yu : Option LQ).isSome = true) := ⟨by rw [← hP.out, base_get_put ha h0 ht, if_pos HK.out], rfl⟩
        have G3 : Hid (¬ y = u.key → o3 = o2 ∧ q3 = q2) := by
          show ¬ y = u.key → _
          intro hn
          have e : o3 = o2 := by rw [← ho3.out.1, ← hP.out, base_get_put ha h0 ht, if_neg (fun e => hn (e.trans HK.out.symm)), ho2.out.1]
          exact ⟨e, by rw [← ho3.out.2, ← ho2.out.2, e]⟩
        have PP : Hid (putB13 P x yu = P) := by show _ = _; rw [← hP.out, base_put_twice ha]
        have OP : Hid (BaseOk P) := by show BaseOk P; rw [← hP.out]; exact put_ok HF.out HSu.out
        have hn20 : l.length ≤ 20 := by have := HN.out; omega
        have ON : Hid (FewB (List.replicate l.length [])) := few_new hn20
        have OQ : Hid (BaseOk Q) := by show BaseOk Q; rw [← hQ.out]; exact put_ok ON.out HSu.out
        have MAY : Hid (baseOk l Q = r) := by show _ = _; rw [← hQ.out, ← right_put_may hr.out h0 ht HF.out, hP.out, hr2.out]
        have hnn : n ≤ 4294967296 := by have := HN.out; omega
        clear ha ht
        have R1_0 := base_row R1.out
        have R3_0 := cell_row R3.out 0
        have R3_1 := cell_row R3.out 1
        try dsimp only [Array.getElem?_toList] at R3_0 R3_1
        obtain ⟨R2_0, R2_1, R2_2⟩ := line_row R2.out
        go_wp2_with fail
        refine (put_is RB.out HF.out.ok HU.out HSu.out.ok hP).mono ?_
        rintro e w5 ⟨xa, xc, rfl, h, b⟩
        clear R1_0 R3_0 R3_1 R2_0 R2_1 R2_2
        replace R0 := Lib.hid (row_below R0.out b)
        replace R1 := Lib.hid (row_below R1.out b)
        replace R2 := Lib.hid (row_below R2.out b)
        replace R3 := Lib.hid (row_below R3.out b)
        replace HS := Lib.hid (HS.out.below b)
        replace RB := Lib.hid (RB.out.below dataR_keeps b)
        replace HU := Lib.hid (HU.out.below b)
        replace HB := Lib.hid (below_then HB.out b)
        have RP := Lib.hid h
        clear h
        clear b
        obtain ⟨w6, hw6⟩ : ∃ V, V = w5.alloc (baseBox xa m xc) := ⟨_, rfl⟩
        have Hw6 := Lib.hid hw6
        have b : Below w5.heap.size w5 w6 := by rw [hw6]; exact below_new (Below.refl _ _) _
        have R9 : Hid (w6.heap[w5.heap.size]? = some (baseBox xa m xc)) := by rw [hw6]; exact heap_alloc_new _ _
        replace R0 := Lib.hid (row_below R0.out b)
        replace R1 := Lib.hid (row_below R1.out b)
        replace R2 := Lib.hid (row_below R2.out b)
        replace R3 := Lib.hid (row_below R3.out b)
        replace HS := Lib.hid (HS.out.below b)
        replace RB := Lib.hid (RB.out.below dataR_keeps b)
        replace HU := Lib.hid (HU.out.below b)
        replace RP := Lib.hid (RP.out.below dataR_keeps b)
        replace HB := Lib.hid (below_then HB.out b)
        clear b hw6
        go_upto_region 4 with fail
        rw [show w5.alloc (baseBox xa m xc) = w6 from Hw6.out.symm]
        clear Hw6
        generalize w5.heap.size = g9 at R9 ⊢
        have R9_0 := base_row R9.out
        have R3_0 := cell_row R3.out 0
        have R3_1 := cell_row R3.out 1
        try dsimp only [Array.getElem?_toList] at R3_0 R3_1
        obtain ⟨R2_0, R2_1, R2_2⟩ := line_row R2.out
        go_wp2_with fail
        refine (get_is RP.out OP.out GN).mono ?_
        rintro e w7 ⟨z10, rfl, h, b⟩
        clear R9_0 R3_0 R3_1 R2_0 R2_1 R2_2
        replace R0 := Lib.hid (row_below R0.out b)
        replace R1 := Lib.hid (row_below R1.out b)
        replace R2 := Lib.hid (row_below R2.out b)
        replace R3 := Lib.hid (row_below R3.out b)
        replace R9 := Lib.hid (row_below R9.out b)
        replace HS := Lib.hid (HS.out.below b)
        replace RB := Lib.hid (RB.out.below dataR_keeps b)
        replace HU := Lib.hid (HU.out.below b)
        replace RP := Lib.hid (RP.out.below dataR_keeps b)
        replace HB := Lib.hid (below_then HB.out b)
        have L10 := Lib.hid h
        clear h
        clear b
        obtain ⟨w8, hw8⟩ : ∃ V, V = w7.alloc (lineBox z10) := ⟨_, rfl⟩
        have Hw8 := Lib.hid hw8
        have b : Below w7.heap.size w7 w8 := by rw [hw8]; exact below_new (Below.refl _ _) _
        have R10 : Hid (w8.heap[w7.heap.size]? = some (lineBox z10)) := by rw [hw8]; exact heap_alloc_new _ _
        replace R0 := Lib.hid (row_below R0.out b)
        replace R1 := Lib.hid (row_below R1.out b)
        replace R2 := Lib.hid (row_below R2.out b)
        replace R3 := Lib.hid (row_below R3.out b)
        replace R9 := Lib.hid (row_below R9.out b)
        replace HS := Lib.hid (HS.out.below b)
        replace RB := Lib.hid (RB.out.below dataR_keeps b)
        replace HU := Lib.hid (HU.out.below b)
        replace RP := Lib.hid (RP.out.below dataR_keeps b)
        replace L10 := Lib.hid (L10.out.below b)
        replace HB := Lib.hid (below_then HB.out b)
        clear b hw8
        go_upto_region 5 with fail
        rw [show w7.alloc (lineBox z10) = w8 from Hw8.out.symm]
        clear Hw8
        generalize w7.heap.size = g10 at R10 ⊢
        have R1_0 := base_row R1.out
        have R3_0 := cell_row R3.out 0
        have R3_1 := cell_row R3.out 1
        try dsimp only [Array.getElem?_toList] at R3_0 R3_1
        go_wp2_with fail
        refine (get_is RB.out HF.out.ok ho2).mono ?_
        rintro e w9 ⟨z12, rfl, h, b⟩
        clear R1_0 R3_0 R3_1
        replace R0 := Lib.hid (row_below R0.out b)
        replace R1 := Lib.hid (row_below R1.out b)
        replace R2 := Lib.hid (row_below R2.out b)
        replace R3 := Lib.hid (row_below R3.out b)
        replace R9 := Lib.hid (row_below R9.out b)
        replace R10 := Lib.hid (row_below R10.out b)
        replace HS := Lib.hid (HS.out.below b)
        replace RB := Lib.hid (RB.out.below dataR_keeps b)
        replace HU := Lib.hid (HU.out.below b)
        replace RP := Lib.hid (RP.out.below dataR_keeps b)
        replace L10 := Lib.hid (L10.out.below b)
        replace HB := Lib.hid (below_then HB.out b)
        have L12 := Lib.hid h
        clear h
        clear b
        obtain ⟨w10, hw10⟩ : ∃ V, V = w9.alloc (lineBox z12) := ⟨_, rfl⟩
        have Hw10 := Lib.hid hw10
        have b : Below w9.heap.size w9 w10 := by rw [hw10]; exact below_new (Below.refl _ _) _
        have R12 : Hid (w10.heap[w9.heap.size]? = some (lineBox z12)) := by rw [hw10]; exact heap_alloc_new _ _
        replace R0 := Lib.hid (row_below R0.out b)
        replace R1 := Lib.hid (row_below R1.out b)
        replace R2 := Lib.hid (row_below R2.out b)
        replace R3 := Lib.hid (row_below R3.out b)
        replace R9 := Lib.hid (row_below R9.out b)
        replace R10 := Lib.hid (row_below R10.out b)
        replace HS := Lib.hid (HS.out.below b)
        replace RB := Lib.hid (RB.out.below dataR_keeps b)
        replace HU := Lib.hid (HU.out.below b)
        replace RP := Lib.hid (RP.out.below dataR_keeps b)
        replace L10 := Lib.hid (L10.out.below b)
        replace L12 := Lib.hid (L12.out.below b)
        replace HB := Lib.hid (below_then HB.out b)
        clear b hw10
        go_upto_region 6 with fail
        rw [show w9.alloc (lineBox z12) = w10 from Hw10.out.symm]
        clear Hw10
        generalize w9.heap.size = g12 at R12 ⊢
        have R9_0 := base_row R9.out
        have R3_0 := cell_row R3.out 0
        have R3_1 := cell_row R3.out 1
        try dsimp only [Array.getElem?_toList] at R3_0 R3_1
        go_wp2_with fail
        refine (get_is RP.out OP.out ho3).mono ?_
        rintro e w11 ⟨z14, rfl, h, b⟩
        clear R9_0 R3_0 R3_1
        replace R0 := Lib.hid (row_below R0.out b)
        replace R1 := Lib.hid (row_below R1.out b)
        replace R2 := Lib.hid (row_below R2.out b)
        replace R3 := Lib.hid (row_below R3.out b)
        replace R9 := Lib.hid (row_below R9.out b)
        replace R10 := Lib.hid (row_below R10.out b)
        replace R12 := Lib.hid (row_below R12.out b)
        replace HS := Lib.hid (HS.out.below b)
        replace RB := Lib.hid (RB.out.below dataR_keeps b)
        replace HU := Lib.hid (HU.out.below b)
        replace RP := Lib.hid (RP.out.below dataR_keeps b)
        replace L10 := Lib.hid (L10.out.below b)
        replace L12 := Lib.hid (L12.out.below b)
        replace HB := Lib.hid (below_then HB.out b)
        have L14 := Lib.hid h
        clear h
        clear b
        obtain ⟨w12, hw12⟩ : ∃ V, V = w11.alloc (lineBox z14) := ⟨_, rfl⟩
        have Hw12 := Lib.hid hw12
        have b : Below w11.heap.size w11 w12 := by rw [hw12]; exact below_new (Below.refl _ _) _
        have R14 : Hid (w12.heap[w11.heap.size]? = some (lineBox z14)) := by rw [hw12]; exact heap_alloc_new _ _
        replace R0 := Lib.hid (row_below R0.out b)
        replace R1 := Lib.hid (row_below R1.out b)
        replace R2 := Lib.hid (row_below R2.out b)
        replace R3 := Lib.hid (row_below R3.out b)
        replace R9 := Lib.hid (row_below R9.out b)
        replace R10 := Lib.hid (row_below R10.out b)
        replace R12 := Lib.hid (row_below R12.out b)
        replace HS := Lib.hid (HS.out.below b)
        replace RB := Lib.hid (RB.out.below dataR_keeps b)
        replace HU := Lib.hid (HU.out.below b)
        replace RP := Lib.hid (RP.out.below dataR_keeps b)
        replace L10 := Lib.hid (L10.out.below b)
        replace L12 := Lib.hid (L12.out.below b)
        replace L14 := Lib.hid (L14.out.below b)
        replace HB := Lib.hid (below_then HB.out b)
        clear b hw12
        go_upto_region 7 with fail
        rw [show w11.alloc (lineBox z14) = w12 from Hw12.out.symm]
        clear Hw12
        generalize w11.heap.size = g14 at R14 ⊢
        clear GN ho2 ho3
        go_cut [99] from 84 to 99 (fun s wz => s = .bool false ∧ Hid (Below w12.heap.size w12 wz))
        case first =>
          have R3_0 := cell_row R3.out 0
          have R3_1 := cell_row R3.out 1
          try dsimp only [Array.getElem?_toList] at R3_0 R3_1
          obtain ⟨R2_0, R2_1, R2_2⟩ := line_row R2.out
          obtain ⟨R12_0, R12_1, R12_2⟩ := line_row R12.out
          obtain ⟨R14_0, R14_1, R14_2⟩ := line_row R14.out
          clear HF OP ON OQ PP HB HS RB RP L10 MAY hP hQ
          by_cases hyz : y = u.key
          · have e1 : (y != u.key) = false := by simp [hyz]
            go_wp2_with fail
            go_meet
            exact ⟨rfl, Below.refl _ _⟩
          · have e1 : (y != u.key) = true := by simp [hyz]
            obtain ⟨rfl, rfl⟩ := G3.out hyz
            cases q3
            all_goals
              go_wp2_with fail
              refine (sameLine_is L12.out L14.out rfl).mono ?_
              rintro e wx ⟨rfl, bb⟩
              have HV := Lib.hid bb
              clear bb
              go_wp2_with fail
              go_meet
              exact ⟨rfl, HV⟩
        case rest =>
        obtain ⟨rfl, hbb⟩ := hcut
        have b := hbb.out
        clear hbb G3
        replace R0 := Lib.hid (row_below R0.out b)
        replace R1 := Lib.hid (row_below R1.out b)
        replace R2 := Lib.hid (row_below R2.out b)
        replace R3 := Lib.hid (row_below R3.out b)
        replace R9 := Lib.hid (row_below R9.out b)
        replace R10 := Lib.hid (row_below R10.out b)
        replace R12 := Lib.hid (row_below R12.out b)
        replace R14 := Lib.hid (row_below R14.out b)
        replace HS := Lib.hid (HS.out.below b)
        replace RB := Lib.hid (RB.out.below dataR_keeps b)
        replace HU := Lib.hid (HU.out.below b)
        replace RP := Lib.hid (RP.out.below dataR_keeps b)
        replace L10 := Lib.hid (L10.out.below b)
        replace HB := Lib.hid (below_then HB.out b)
        clear b L12 L14
        generalize wc = w13 at R0 R1 R2 R3 R9 R10 R12 R14 HS RB HU RP L10 HB ⊢
        have R0_0 := sch_row R0.out
        go_wp2_with fail
        refine (new_is HS.out hnn).mono ?_
        rintro e w14 ⟨xn, xm, rfl, h, b⟩
        clear R0_0
        replace R0 := Lib.hid (row_below R0.out b)
        replace R1 := Lib.hid (row_below R1.out b)
        replace R2 := Lib.hid (row_below R2.out b)
        replace R3 := Lib.hid (row_below R3.out b)
        replace R9 := Lib.hid (row_below R9.out b)
        replace R10 := Lib.hid (row_below R10.out b)
        replace R12 := Lib.hid (row_below R12.out b)
        replace R14 := Lib.hid (row_below R14.out b)
        replace HS := Lib.hid (HS.out.below b)
        replace RB := Lib.hid (RB.out.below dataR_keeps b)
        replace HU := Lib.hid (HU.out.below b)
        replace RP := Lib.hid (RP.out.below dataR_keeps b)
        replace L10 := Lib.hid (L10.out.below b)
        replace HB := Lib.hid (below_then HB.out b)
        have RN := Lib.hid h
        clear h
        clear b
        obtain ⟨w15, hw15⟩ : ∃ V, V = w14.alloc (baseBox xn n xm) := ⟨_, rfl⟩
        have Hw15 := Lib.hid hw15
        have b : Below w14.heap.size w14 w15 := by rw [hw15]; exact below_new (Below.refl _ _) _
        have R16 : Hid (w15.heap[w14.heap.size]? = some (baseBox xn n xm)) := by rw [hw15]; exact heap_alloc_new _ _
        replace R0 := Lib.hid (row_below R0.out b)
        replace R1 := Lib.hid (row_below R1.out b)
        replace R2 := Lib.hid (row_below R2.out b)
        replace R3 := Lib.hid (row_below R3.out b)
        replace R9 := Lib.hid (row_below R9.out b)
        replace R10 := Lib.hid (row_below R10.out b)
        replace R12 := Lib.hid (row_below R12.out b)
        replace R14 := Lib.hid (row_below R14.out b)
        replace HS := Lib.hid (HS.out.below b)
        replace RB := Lib.hid (RB.out.below dataR_keeps b)
        replace HU := Lib.hid (HU.out.below b)
        replace RP := Lib.hid (RP.out.below dataR_keeps b)
        replace L10 := Lib.hid (L10.out.below b)
        replace RN := Lib.hid (RN.out.below dataR_keeps b)
        replace HB := Lib.hid (below_then HB.out b)
        clear b hw15
        go_upto_region 10 with fail
        rw [show w14.alloc (baseBox xn n xm) = w15 from Hw15.out.symm]
        clear Hw15
        generalize w14.heap.size = g16 at R16 ⊢
        go_cut [17] from 102 to 108 (fun s wz => s = .bool r ∧ Hid (Below w15.heap.size w15 wz))
        case first =>
          have C2 : Hid (∀ W, Below w15.heap.size w15 W → Calls Tryz.prog 18 #[.agg #[.slice xn n xm], .int .i64 x, u.agg] W fun e w' => ∃ (za : Option Addr) (zc : Nat), e = .returned (.agg #[.slice za n zc]) ∧ RdB w' za n zc Q ∧ Below W.heap.size W w') := fun W hW => put_is (RN.out.below dataR_keeps hW) ON.out.ok (HU.out.below hW) HSu.out.ok hQ
          have C1 : Hid (∀ W za zc, Below w15.heap.size w15 W → RdB W za n zc Q → Calls Tryz.prog 12 #[.agg #[.slice A n c], .agg #[.slice za n zc]] W fun e w' => e = .returned (.bool r) ∧ Below W.heap.size W w') := fun W za zc hW h => right_is (HS.out.below hW) h OQ.out MAY
          clear HF OP ON OQ PP HB RB RP L10 MAY hP hQ HSu hr hr2
          have R0_0 := sch_row R0.out
          obtain ⟨R2_0, R2_1, R2_2⟩ := line_row R2.out
          have R3_0 := cell_row R3.out 0
          have R3_1 := cell_row R3.out 1
          try dsimp only [Array.getElem?_toList] at R3_0 R3_1
          have R16_0 := base_row R16.out
          clear HS HU RN R0 R1 R2 R3 R9 R10 R12 R14 R16
          have hS0 : Below w15.heap.size w15 w15 ∧ World.cell? w15 ⟨w.heap.size, 0, none⟩ = some (.slice A n c) ∧ World.cell? w15 ⟨w.heap.size + 1 + 1, 0, none⟩ = some (.int .i64 u.key) ∧ World.cell? w15 ⟨w.heap.size + 1 + 1, 1, none⟩ = some (.slice u.ca u.cn u.cc) ∧ World.cell? w15 ⟨w.heap.size + 1 + 1, 2, none⟩ = some (.slice u.ba u.bn u.bc) ∧ World.cell? w15 ⟨w.heap.size + 1 + 1 + 1, 0, none⟩ = some (.int .i64 x) ∧ World.cell? w15 ⟨g16, 0, none⟩ = some (.slice xn n xm) := ⟨Below.refl _ _, R0_0, R2_0, R2_1, R2_2, R3_0, R16_0⟩
          have K : Hid (∀ W W' : World, (Below w15.heap.size w15 W ∧ World.cell? W ⟨w.heap.size, 0, none⟩ = some (.slice A n c) ∧ World.cell? W ⟨w.heap.size + 1 + 1, 0, none⟩ = some (.int .i64 u.key) ∧ World.cell? W ⟨w.heap.size + 1 + 1, 1, none⟩ = some (.slice u.ca u.cn u.cc) ∧ World.cell? W ⟨w.heap.size + 1 + 1, 2, none⟩ = some (.slice u.ba u.bn u.bc) ∧ World.cell? W ⟨w.heap.size + 1 + 1 + 1, 0, none⟩ = some (.int .i64 x) ∧ World.cell? W ⟨g16, 0, none⟩ = some (.slice xn n xm)) → Below W.heap.size W W' → (Below w15.heap.size w15 W' ∧ World.cell? W' ⟨w.heap.size, 0, none⟩ = some (.slice A n c) ∧ World.cell? W' ⟨w.heap.size + 1 + 1, 0, none⟩ = some (.int .i64 u.key) ∧ World.cell? W' ⟨w.heap.size + 1 + 1, 1, none⟩ = some (.slice u.ca u.cn u.cc) ∧ World.cell? W' ⟨w.heap.size + 1 + 1, 2, none⟩ = some (.slice u.ba u.bn u.bc) ∧ World.cell? W' ⟨w.heap.size + 1 + 1 + 1, 0, none⟩ = some (.int .i64 x) ∧ World.cell? W' ⟨g16, 0, none⟩ = some (.slice xn n xm))) := by
            show ∀ W W' : World, _
            rintro W W' ⟨kb, k0, k1, k2, k3, k4, k5⟩ hb
            exact ⟨below_then kb hb, (hb.cell (World.block_lt_of_cell? _ _ k0)).trans k0, (hb.cell (World.block_lt_of_cell? _ _ k1)).trans k1, (hb.cell (World.block_lt_of_cell? _ _ k2)).trans k2, (hb.cell (World.block_lt_of_cell? _ _ k3)).trans k3, (hb.cell (World.block_lt_of_cell? _ _ k4)).trans k4, (hb.cell (World.block_lt_of_cell? _ _ k5)).trans k5⟩
          clear R0_0 R2_0 R2_1 R2_2 R3_0 R3_1 R16_0
          go_region_held3 (fun W => Below w15.heap.size w15 W ∧ World.cell? W ⟨w.heap.size, 0, none⟩ = some (.slice A n c) ∧ World.cell? W ⟨w.heap.size + 1 + 1, 0, none⟩ = some (.int .i64 u.key) ∧ World.cell? W ⟨w.heap.size + 1 + 1, 1, none⟩ = some (.slice u.ca u.cn u.cc) ∧ World.cell? W ⟨w.heap.size + 1 + 1, 2, none⟩ = some (.slice u.ba u.bn u.bc) ∧ World.cell? W ⟨w.heap.size + 1 + 1 + 1, 0, none⟩ = some (.int .i64 x) ∧ World.cell? W ⟨g16, 0, none⟩ = some (.slice xn n xm))
            (first
              | exact K.out _ _ hS0 ((Below.refl _ _).drew)
              | exact K.out _ _ (by assumption) bb
              | exact K.out _ _ (by assumption) (below_new (Below.refl _ _) _))
            (first
              | (go_at_call 18; refine (C2.out _ (by go_split_ands; assumption)).mono ?_; rintro e wx ⟨za, zc, rfl, h, bb⟩; have RZ1 := Lib.hid h; clear h)
              | (go_at_call 12; refine (C1.out _ _ _ (by go_split_ands; assumption) RZ1.out).mono ?_; rintro e wx ⟨rfl, bb⟩))
          all_goals
            go_split_ands
            have HZ := Lib.hid (show Below w15.heap.size w15 _ by assumption)
            go_wp2_with fail
            go_meet
            exact ⟨rfl, HZ⟩
        case rest =>
        obtain ⟨rfl, hbb⟩ := hcut
        have b := hbb.out
        clear hbb
        replace R0 := Lib.hid (row_below R0.out b)
        replace R1 := Lib.hid (row_below R1.out b)
        replace R2 := Lib.hid (row_below R2.out b)
        replace R3 := Lib.hid (row_below R3.out b)
        replace R9 := Lib.hid (row_below R9.out b)
        replace R10 := Lib.hid (row_below R10.out b)
        replace R12 := Lib.hid (row_below R12.out b)
        replace R14 := Lib.hid (row_below R14.out b)
        replace R16 := Lib.hid (row_below R16.out b)
        replace HS := Lib.hid (HS.out.below b)
        replace RB := Lib.hid (RB.out.below dataR_keeps b)
        replace HU := Lib.hid (HU.out.below b)
        replace RP := Lib.hid (RP.out.below dataR_keeps b)
        replace L10 := Lib.hid (L10.out.below b)
        replace HB := Lib.hid (below_then HB.out b)
        clear b RN
        generalize wc = w16 at R0 R1 R2 R3 R9 R10 R12 R14 R16 HS RB HU RP L10 HB ⊢
        have L10 : Hid (LineR w16 z10 yu) := L10
        have C1 : Hid (∀ W, Below w16.heap.size w16 W → Calls Tryz.prog 12 #[.agg #[.slice A n c], .agg #[.slice xa m xc]] W fun e w' => e = .returned (.bool r) ∧ Below W.heap.size W w') := fun W hW => right_is (HS.out.below hW) (RP.out.below dataR_keeps hW) OP.out hr2
        have C2 : Hid (∀ W, Below w16.heap.size w16 W → Calls Tryz.prog 22 #[z10.agg, u.agg] W fun e w' => e = .returned (.bool true) ∧ Below W.heap.size W w') := fun W hW => sameLine_is (L10.out.below hW) (HU.out.below hW) rfl
        have C3 : Hid (∀ W, Below w16.heap.size w16 W → Calls Tryz.prog 18 #[.agg #[.slice xa m xc], .int .i64 x, u.agg] W fun e w' => ∃ (za : Option Addr) (zc : Nat), e = .returned (.agg #[.slice za m zc]) ∧ RdB w' za m zc P ∧ Below W.heap.size W w') := fun W hW => put_is (RP.out.below dataR_keeps hW) OP.out (HU.out.below hW) HSu.out.ok PP
        have C4 : Hid (∀ W za zc, Below w16.heap.size w16 W → RdB W za m zc P → Calls Tryz.prog 14 #[.agg #[.slice za m zc], .agg #[.slice xa m xc]] W fun e w' => e = .returned (.bool true) ∧ Below W.heap.size W w') := fun W za zc hW h => same_is h (RP.out.below dataR_keeps hW) rfl
        clear OP ON OQ PP MAY hP hQ HSu hr hr2 HF
        go_upto_region 11 with fail
        have R0_0 := sch_row R0.out
        obtain ⟨R2_0, R2_1, R2_2⟩ := line_row R2.out
        have R3_0 := cell_row R3.out 0
        have R3_1 := cell_row R3.out 1
        try dsimp only [Array.getElem?_toList] at R3_0 R3_1
        have R9_0 := base_row R9.out
        obtain ⟨R10_0, R10_1, R10_2⟩ := line_row R10.out
        clear HS HU RB RP L10 R0 R1 R2 R3 R9 R10 R12 R14 R16
        have hS0 : Below w16.heap.size w16 w16 ∧ World.cell? w16 ⟨w.heap.size, 0, none⟩ = some (.slice A n c) ∧ World.cell? w16 ⟨w.heap.size + 1 + 1, 0, none⟩ = some (.int .i64 u.key) ∧ World.cell? w16 ⟨w.heap.size + 1 + 1, 1, none⟩ = some (.slice u.ca u.cn u.cc) ∧ World.cell? w16 ⟨w.heap.size + 1 + 1, 2, none⟩ = some (.slice u.ba u.bn u.bc) ∧ World.cell? w16 ⟨w.heap.size + 1 + 1 + 1, 0, none⟩ = some (.int .i64 x) ∧ World.cell? w16 ⟨g9, 0, none⟩ = some (.slice xa m xc) ∧ World.cell? w16 ⟨g10, 0, none⟩ = some (.int .i64 z10.key) ∧ World.cell? w16 ⟨g10, 1, none⟩ = some (.slice z10.ca z10.cn z10.cc) ∧ World.cell? w16 ⟨g10, 2, none⟩ = some (.slice z10.ba z10.bn z10.bc) := ⟨Below.refl _ _, R0_0, R2_0, R2_1, R2_2, R3_0, R9_0, R10_0, R10_1, R10_2⟩
        have K : Hid (∀ W W' : World, (Below w16.heap.size w16 W ∧ World.cell? W ⟨w.heap.size, 0, none⟩ = some (.slice A n c) ∧ World.cell? W ⟨w.heap.size + 1 + 1, 0, none⟩ = some (.int .i64 u.key) ∧ World.cell? W ⟨w.heap.size + 1 + 1, 1, none⟩ = some (.slice u.ca u.cn u.cc) ∧ World.cell? W ⟨w.heap.size + 1 + 1, 2, none⟩ = some (.slice u.ba u.bn u.bc) ∧ World.cell? W ⟨w.heap.size + 1 + 1 + 1, 0, none⟩ = some (.int .i64 x) ∧ World.cell? W ⟨g9, 0, none⟩ = some (.slice xa m xc) ∧ World.cell? W ⟨g10, 0, none⟩ = some (.int .i64 z10.key) ∧ World.cell? W ⟨g10, 1, none⟩ = some (.slice z10.ca z10.cn z10.cc) ∧ World.cell? W ⟨g10, 2, none⟩ = some (.slice z10.ba z10.bn z10.bc)) → Below W.heap.size W W' → (Below w16.heap.size w16 W' ∧ World.cell? W' ⟨w.heap.size, 0, none⟩ = some (.slice A n c) ∧ World.cell? W' ⟨w.heap.size + 1 + 1, 0, none⟩ = some (.int .i64 u.key) ∧ World.cell? W' ⟨w.heap.size + 1 + 1, 1, none⟩ = some (.slice u.ca u.cn u.cc) ∧ World.cell? W' ⟨w.heap.size + 1 + 1, 2, none⟩ = some (.slice u.ba u.bn u.bc) ∧ World.cell? W' ⟨w.heap.size + 1 + 1 + 1, 0, none⟩ = some (.int .i64 x) ∧ World.cell? W' ⟨g9, 0, none⟩ = some (.slice xa m xc) ∧ World.cell? W' ⟨g10, 0, none⟩ = some (.int .i64 z10.key) ∧ World.cell? W' ⟨g10, 1, none⟩ = some (.slice z10.ca z10.cn z10.cc) ∧ World.cell? W' ⟨g10, 2, none⟩ = some (.slice z10.ba z10.bn z10.bc))) := by
          show ∀ W W' : World, _
          rintro W W' ⟨kb, k0, k1, k2, k3, k4, k5, k6, k7, k8⟩ hb
          exact ⟨below_then kb hb, (hb.cell (World.block_lt_of_cell? _ _ k0)).trans k0, (hb.cell (World.block_lt_of_cell? _ _ k1)).trans k1, (hb.cell (World.block_lt_of_cell? _ _ k2)).trans k2, (hb.cell (World.block_lt_of_cell? _ _ k3)).trans k3, (hb.cell (World.block_lt_of_cell? _ _ k4)).trans k4, (hb.cell (World.block_lt_of_cell? _ _ k5)).trans k5, (hb.cell (World.block_lt_of_cell? _ _ k6)).trans k6, (hb.cell (World.block_lt_of_cell? _ _ k7)).trans k7, (hb.cell (World.block_lt_of_cell? _ _ k8)).trans k8⟩
        clear R0_0 R2_0 R2_1 R2_2 R3_0 R3_1 R9_0 R10_0 R10_1 R10_2
        go_region_held3 (fun W => Below w16.heap.size w16 W ∧ World.cell? W ⟨w.heap.size, 0, none⟩ = some (.slice A n c) ∧ World.cell? W ⟨w.heap.size + 1 + 1, 0, none⟩ = some (.int .i64 u.key) ∧ World.cell? W ⟨w.heap.size + 1 + 1, 1, none⟩ = some (.slice u.ca u.cn u.cc) ∧ World.cell? W ⟨w.heap.size + 1 + 1, 2, none⟩ = some (.slice u.ba u.bn u.bc) ∧ World.cell? W ⟨w.heap.size + 1 + 1 + 1, 0, none⟩ = some (.int .i64 x) ∧ World.cell? W ⟨g9, 0, none⟩ = some (.slice xa m xc) ∧ World.cell? W ⟨g10, 0, none⟩ = some (.int .i64 z10.key) ∧ World.cell? W ⟨g10, 1, none⟩ = some (.slice z10.ca z10.cn z10.cc) ∧ World.cell? W ⟨g10, 2, none⟩ = some (.slice z10.ba z10.bn z10.bc))
          (first
            | exact K.out _ _ hS0 ((Below.refl _ _).drew)
            | exact K.out _ _ (by assumption) bb
            | exact K.out _ _ (by assumption) (below_new (Below.refl _ _) _))
          (first
            | (go_at_call 11; refine (alive13_any _).mono ?_; rintro e wx ⟨rfl, bb⟩)
            | (go_at_call 22; refine (C2.out _ (by go_split_ands; assumption)).mono ?_; rintro e wx ⟨rfl, bb⟩)
            | (go_at_call 12; refine (C1.out _ (by go_split_ands; assumption)).mono ?_; rintro e wx ⟨rfl, bb⟩)
            | (go_at_call 18; refine (C3.out _ (by go_split_ands; assumption)).mono ?_; rintro e wx ⟨za, zc, rfl, h, bb⟩; have RZ1 := Lib.hid h; clear h)
            | (go_at_call 14; refine (C4.out _ _ _ (by go_split_ands; assumption) RZ1.out).mono ?_; rintro e wx ⟨rfl, bb⟩))
        all_goals
          go_split_ands
          have HZ := Lib.hid (below_then HB.out (show Below w16.heap.size w16 _ by assumption))
          go_wp2_with fail
          go_ret
          exact ⟨rfl, HZ.out⟩
set_option maxRecDepth 100000 in
theorem contract (H : Type) (enc : TypeId × Value → H) (W : World) (base : Nat) (args : Array Value) (ds gs : List (DataW H)) (before : List MemPlace)
    (hval : ∀ (j : Nat) t v, Tryz.f5.params[j]? = some t → args[j]? = some v → Value.okWide Tryz.prog W .any base t v)
    (hW : DataW.Whole enc Tryz.prog Tryz.f5.params.toList Rows.basePutSpec.vars false W args.toList ds gs before)
    (hsz : (DataW.weightsEach Tryz.prog (Tryz.f5.params.toList ++ Rows.basePutSpec.plain.varTypes Tryz.prog) (ds ++ gs)).all (· ≤ reachBytes) = true) :
    Calls Tryz.prog 5 args W fun e W' => ∃ v, e = .returned v ∧ Rows.basePutSpec.post enc Tryz.prog Tryz.f5 false true false false W args v W' := by
  have hlt : ∀ x ∈ before, x.block < W.heap.size := fun x hx => by simpa using hW.lt x hx
  refine law_step 4 Tryz.laid_ (by kernel_rfl) rfl Tryz.underlying4 rfl hW (fun xs hx => ?_) ?_
  · match xs, hx with
    | [d0, d1, d2, d3], _ => rfl
  · obtain ⟨p, q, hA0, hV, rfl, _, _⟩ := hW
    have hA : DataW.TrodAll enc Tryz.prog W 0 (fun _ => true) true Tryz.f5.params.toList args.toList ds p := hA0
    rw [Tryz.params5] at hA hval hsz
    obtain ⟨v0, vs0, d0, ds0, p0, q0, e0, rfl, rfl, h0, r0⟩ := trodAll_cons hA
    obtain ⟨v1, vs1, d1, ds1, p1, q1, e1, rfl, rfl, h1, r1⟩ := trodAll_cons r0
    obtain ⟨v2, vs2, d2, ds2, p2, q2, e2, rfl, rfl, h2, r2⟩ := trodAll_cons r1
    obtain ⟨v3, vs3, d3, ds3, p3, q3, e3, rfl, rfl, h3, r3⟩ := trodAll_cons r2
    obtain ⟨rfl, rfl, rfl⟩ := trodAll_nil r3
    subst e3
    subst e2
    subst e1
    obtain rfl : args = #[v0, v1, v2, v3] := by cases args; simp_all
    clear e0 hA0
    have hw0 : ∀ x ∈ d0.weights Tryz.prog 24, x ≤ reachBytes := fun x hx => by simpa using List.all_eq_true.1 hsz _ (DataW.weights_mem_each (j := 0) rfl rfl x hx)
    obtain ⟨A0, n0, c0, l0, rfl, rd0, sm0⟩ := open_schema (hval 0 24 v0 rfl rfl) h0 hw0
    have hw1 : ∀ x ∈ d1.weights Tryz.prog 27, x ≤ reachBytes := fun x hx => by simpa using List.all_eq_true.1 hsz _ (DataW.weights_mem_each (j := 1) rfl rfl x hx)
    obtain ⟨A1, n1, c1, l1, rfl, rd1, sm1⟩ := open_base (hval 1 27 v1 rfl rfl) h1 hw1
    obtain ⟨x2, y2, rfl, rd2⟩ := open_line (hval 2 37 v2 rfl rfl) h2
    obtain ⟨x3, y3, rfl, wx3, wy3⟩ := open_arr2 (hval 3 33 v3 rfl rfl) h3
    exact walk A0 n0 c0 l0 A1 n1 c1 l1 x2 y2 x3 y3 W rd0 rd1 sm1 rd2
set_option maxRecDepth 100000 in
theorem lifted (os : Os) (started : os.Started) (H : Type) (enc : TypeId × Value → H) :
    ReturnsInHanded {} Tryz.checked os 5 .any (Rows.basePutSpec.pre6 enc Tryz.prog Tryz.f5 Rows.basePutRow.domain false) (Rows.basePutSpec.post enc Tryz.prog Tryz.f5 false true false false) := by
  refine returnsInHanded_of_change_sized (C := Tryz.checked) Tryz.own_ started (by kernel_rfl) Tryz.func5
    (ChangeSpec.witness6 (enc := enc) (C := Tryz.checked) false ⟨#[], #[.agg #[.slice none 0 0], .agg #[.slice none 0 0], .agg #[.int .i64 0, .slice none 0 0, .slice none 0 0], .agg #[.int .i64 0, .int .i64 0]], []⟩ 8 (by kernel_rfl) (by kernel_rfl) (by kernel_rfl) (by kernel_rfl)) ?_
  intro W base args ds gs before hval hW _ hsz _
  exact contract H enc W base args ds gs before hval hW hsz
theorem holds : Rows.BasePutSaid :=
  OpenClaim.holds_of_wide 5 Tryz.f5 rfl rfl rfl rfl rfl rfl rfl ⟨rfl, rfl, rfl, rfl, rfl⟩ rfl rfl rfl rfl rfl (by kernel_rfl) Tryz.func5 (by kernel_rfl)
    (of_decide_eq_true (by kernel_rfl)) (by unfold Func.isWrapper; first | (rw [if_pos (by decide +kernel)]; kernel_rfl) | (rw [if_neg (by decide +kernel)]; exact ⟨rfl, rfl⟩))
    (fun os started H enc _ => lifted os started H enc)
end Go.Proofs.YtfljhnalmiibeaaGreat.basePut

