/- Whatever schema, base and numbers come in: BaseDrop answers true: what is dropped is not there, all other lines are as they were, and put back the base is as it was. No condition. -/
import Derived.Test.YtfljhnalmiibeaaGreatRows
import Derived.Test.YtfljhnalmiibeaaGreatMbMem
import Derived.Test.YtfljhnalmiibeaaGreatMbBasLawM
import Derived.Test.YtfljhnalmiibeaaGreatMbBasOpen
import Derived.Test.YtfljhnalmiibeaaGreatMbVecOpen
namespace Go.Proofs.YtfljhnalmiibeaaGreat.baseDrop
open Go.ChangeShapes Go.WideShapes Go.ChangeAt Go.RowKit Go.ChangeMaps
set_option maxRecDepth 100000 in
set_option maxHeartbeats 25600000 in
theorem walk (A : Option Addr) (n c : Nat) (l : List T6) (B : Option Addr) (m d : Nat) (b : List (List LQ)) (x y z : Int) (w : World) (hs : RdS11 w A n c l) (hb : RdB w B m d b) (hL : ∀ q ∈ b, q.length ≤ 140737488355328) : Calls Tryz.prog 6 #[.agg #[.slice A n c], .agg #[.slice B m d], .agg #[.int .i64 x, .int .i64 y, .int .i64 z]] w fun e w' => e = .returned (.bool true) ∧ Below w.heap.size w w' := by
  have hle := hs.le
  have HN := Lib.hid hs.len
  have HM := Lib.hid hb.len
  obtain ⟨w1, hw1⟩ : ∃ w1, w1 = (((w.alloc (schBox A n c)).alloc (baseBox B m d)).alloc (.cells #[.int .i64 x, .int .i64 y, .int .i64 z] 49)) := ⟨_, rfl⟩
  have HW1 := Lib.hid hw1
  have HB : Hid (Below w.heap.size w w1) := by rw [hw1]; exact below_new (below_new (below_new (Below.refl _ _) _) _) _
  have R0 : Hid (w1.heap[w.heap.size]? = some (schBox A n c)) := by rw [hw1]; exact old_row13 _ (old_row13 _ (new_row13 _ _ rfl))
  have R1 : Hid (w1.heap[w.heap.size + 1]? = some (baseBox B m d)) := by rw [hw1]; exact old_row13 _ (new_row13 _ _ (by simp only [World.size_alloc]))
  have R2 : Hid (w1.heap[w.heap.size + 1 + 1]? = some (.cells #[.int .i64 x, .int .i64 y, .int .i64 z] 49)) := by rw [hw1]; exact new_row13 _ _ (by simp only [World.size_alloc])
  have HS := Lib.hid (hs.below HB.out)
  have RB := Lib.hid (hb.below dataR_keeps HB.out)
  clear hw1 hs hb
  go_enter Tryz.func6, Tryz.ntmps6
  go_upto_region 1 with fail
  rw [show (((w.alloc (schBox A n c)).alloc (baseBox B m d)).alloc (.cells #[.int .i64 x, .int .i64 y, .int .i64 z] 49)) = w1 from HW1.out.symm]
  clear HW1
  have R1_0 := base_row R1.out
  go_wp2_with fail
  refine (few13_any B m d b _ RB.out hL).mono ?_
  rintro e w2 ⟨q, rfl, hq, b⟩
  clear R1_0
  replace R0 := Lib.hid (row_below R0.out b)
  replace R1 := Lib.hid (row_below R1.out b)
  replace R2 := Lib.hid (row_below R2.out b)
  replace HS := Lib.hid (HS.out.below b)
  replace RB := Lib.hid (RB.out.below dataR_keeps b)
  replace HB := Lib.hid (below_then HB.out b)
  clear b hL
  cases q with
  | false =>
    clear hq
    go_wp2_with fail
    refine (alive13_any _).mono ?_
    rintro e wz ⟨rfl, bz⟩
    have HZ := Lib.hid (below_then HB.out bz)
    clear bz
    go_wp2_with fail
    go_ret
    exact ⟨rfl, HZ.out⟩
  | true =>
    have HF : Hid (FewB b) := hq rfl
    clear hq
    have R0_0 := sch_row R0.out
    by_cases hn : (20 : Int) < (n : Int)
    · skip
      go_wp2_with fail
      refine (alive13_any _).mono ?_
      rintro e wz ⟨rfl, bz⟩
      have HZ := Lib.hid (below_then HB.out bz)
      clear bz
      go_wp2_with fail
      go_ret
      exact ⟨rfl, HZ.out⟩
    clear R0_0
    obtain ⟨r, hr⟩ : ∃ r, Hid (baseOk l b = r) := ⟨_, rfl⟩
    have R0_0 := sch_row R0.out
    have R1_0 := base_row R1.out
    go_wp2_with fail
    refine (right_is HS.out RB.out HF.out.ok hr).mono ?_
    rintro e w3 ⟨rfl, b⟩
    clear R0_0 R1_0
    replace R0 := Lib.hid (row_below R0.out b)
    replace R1 := Lib.hid (row_below R1.out b)
    replace R2 := Lib.hid (row_below R2.out b)
    replace HS := Lib.hid (HS.out.below b)
    replace RB := Lib.hid (RB.out.below dataR_keeps b)
    replace HB := Lib.hid (below_then HB.out b)
    clear b
    cases r with
    | false =>
      clear hr
      go_wp2_with fail
      refine (alive13_any _).mono ?_
      rintro e wz ⟨rfl, bz⟩
      have HZ := Lib.hid (below_then HB.out bz)
      clear bz
      go_wp2_with fail
      go_ret
      exact ⟨rfl, HZ.out⟩
    | true =>
      obtain ⟨o1, q1, ho1⟩ : ∃ o1 q1, Hid (getB13 b x y = o1 ∧ o1.isSome = q1) := ⟨_, _, rfl, rfl⟩
      obtain ⟨o3, q3, ho3⟩ : ∃ o3 q3, Hid (getB13 b x z = o3 ∧ o3.isSome = q3) := ⟨_, _, rfl, rfl⟩
      obtain ⟨D, hD⟩ : ∃ D, Hid (dropB13 b x y = D) := ⟨_, rfl⟩
      obtain ⟨o4, q4, ho4⟩ : ∃ o4 q4, Hid (getB13 D x z = o4 ∧ o4.isSome = q4) := ⟨_, _, rfl, rfl⟩
      have ha := right_asc hr.out x
      have GN : Hid (getB13 D x y = none ∧ (none : Option LQ).isSome = false) := ⟨by rw [← hD.out, base_get_drop ha, if_pos rfl], rfl⟩
      have G4 : Hid (¬ y = z → o4 = o3 ∧ q4 = q3) := by
        show ¬ y = z → _
        intro hn
        have e : o4 = o3 := by rw [← ho4.out.1, ← hD.out, base_get_drop ha, if_neg (fun e => hn e.symm), ho3.out.1]
        exact ⟨e, by rw [← ho4.out.2, ← ho3.out.2, e]⟩
      have DD : Hid (dropB13 D x y = D) := by show _ = _; rw [← hD.out, base_drop_twice ha]
      have DN : Hid (o1 = none → D = b) := by
        show o1 = none → D = b
        intro h; rw [← hD.out]; exact base_drop_none (by rw [ho1.out.1, h])
      have DB : Hid (∀ v, o1 = some v → putB13 D x v = b) := by
        show ∀ v, o1 = some v → putB13 D x v = b
        intro v h; rw [← hD.out]; exact base_put_back ha (by rw [ho1.out.1, h])
      have OD : Hid (BaseOk D) := by show BaseOk D; rw [← hD.out]; exact drop_few HF.out.ok
      have RT : Hid (baseOk l D = true) := by show _ = _; rw [← hD.out]; exact right_drop hr.out
      have OL : Hid (∀ v, o1 = some v → LineOk v) := by
        show ∀ v, o1 = some v → LineOk v
        intro v h
        obtain ⟨q, h1, h2⟩ := linesB_mem (getL_some (ho1.out.1.trans h)).1
        exact HF.out.ok.each q h1 v h2
      clear ha
      have R1_0 := base_row R1.out
      have R2_0 := cell_row R2.out 0
      have R2_1 := cell_row R2.out 1
      have R2_2 := cell_row R2.out 2
      try dsimp only [Array.getElem?_toList] at R2_0 R2_1 R2_2
      go_wp2_with fail
      refine (get_is RB.out HF.out.ok ho1).mono ?_
      rintro e w4 ⟨z7, rfl, h, b⟩
      clear R1_0 R2_0 R2_1 R2_2
      replace R0 := Lib.hid (row_below R0.out b)
      replace R1 := Lib.hid (row_below R1.out b)
      replace R2 := Lib.hid (row_below R2.out b)
      replace HS := Lib.hid (HS.out.below b)
      replace RB := Lib.hid (RB.out.below dataR_keeps b)
      replace HB := Lib.hid (below_then HB.out b)
      have L7 := Lib.hid h
      clear h
      clear b
      obtain ⟨w5, hw5⟩ : ∃ V, V = w4.alloc (lineBox z7) := ⟨_, rfl⟩
      have Hw5 := Lib.hid hw5
      have b : Below w4.heap.size w4 w5 := by rw [hw5]; exact below_new (Below.refl _ _) _
      have R7 : Hid (w5.heap[w4.heap.size]? = some (lineBox z7)) := by rw [hw5]; exact heap_alloc_new _ _
      replace R0 := Lib.hid (row_below R0.out b)
      replace R1 := Lib.hid (row_below R1.out b)
      replace R2 := Lib.hid (row_below R2.out b)
      replace HS := Lib.hid (HS.out.below b)
      replace RB := Lib.hid (RB.out.below dataR_keeps b)
      replace L7 := Lib.hid (L7.out.below b)
      replace HB := Lib.hid (below_then HB.out b)
      clear b hw5
      go_upto_region 4 with fail
      rw [show w4.alloc (lineBox z7) = w5 from Hw5.out.symm]
      clear Hw5
      generalize w4.heap.size = g7 at R7 ⊢
      have R1_0 := base_row R1.out
      have R2_0 := cell_row R2.out 0
      have R2_1 := cell_row R2.out 1
      have R2_2 := cell_row R2.out 2
      try dsimp only [Array.getElem?_toList] at R2_0 R2_1 R2_2
      go_wp2_with fail
      refine (drop_is RB.out HF.out.ok hD).mono ?_
      rintro e w6 ⟨xa, xc, rfl, h, b⟩
      clear R1_0 R2_0 R2_1 R2_2
      replace R0 := Lib.hid (row_below R0.out b)
      replace R1 := Lib.hid (row_below R1.out b)
      replace R2 := Lib.hid (row_below R2.out b)
      replace R7 := Lib.hid (row_below R7.out b)
      replace HS := Lib.hid (HS.out.below b)
      replace RB := Lib.hid (RB.out.below dataR_keeps b)
      replace L7 := Lib.hid (L7.out.below b)
      replace HB := Lib.hid (below_then HB.out b)
      have RD := Lib.hid h
      clear h
      clear b
      obtain ⟨w7, hw7⟩ : ∃ V, V = w6.alloc (baseBox xa m xc) := ⟨_, rfl⟩
      have Hw7 := Lib.hid hw7
      have b : Below w6.heap.size w6 w7 := by rw [hw7]; exact below_new (Below.refl _ _) _
      have R9 : Hid (w7.heap[w6.heap.size]? = some (baseBox xa m xc)) := by rw [hw7]; exact heap_alloc_new _ _
      replace R0 := Lib.hid (row_below R0.out b)
      replace R1 := Lib.hid (row_below R1.out b)
      replace R2 := Lib.hid (row_below R2.out b)
      replace R7 := Lib.hid (row_below R7.out b)
      replace HS := Lib.hid (HS.out.below b)
      replace RB := Lib.hid (RB.out.below dataR_keeps b)
      replace L7 := Lib.hid (L7.out.below b)
      replace RD := Lib.hid (RD.out.below dataR_keeps b)
      replace HB := Lib.hid (below_then HB.out b)
      clear b hw7
      go_upto_region 5 with fail
      rw [show w6.alloc (baseBox xa m xc) = w7 from Hw7.out.symm]
      clear Hw7
      generalize w6.heap.size = g9 at R9 ⊢
      have R9_0 := base_row R9.out
      have R2_0 := cell_row R2.out 0
      have R2_1 := cell_row R2.out 1
      have R2_2 := cell_row R2.out 2
      try dsimp only [Array.getElem?_toList] at R2_0 R2_1 R2_2
      go_wp2_with fail
      refine (get_is RD.out OD.out GN).mono ?_
      rintro e w8 ⟨z10, rfl, h, b⟩
      clear R9_0 R2_0 R2_1 R2_2
      replace R0 := Lib.hid (row_below R0.out b)
      replace R1 := Lib.hid (row_below R1.out b)
      replace R2 := Lib.hid (row_below R2.out b)
      replace R7 := Lib.hid (row_below R7.out b)
      replace R9 := Lib.hid (row_below R9.out b)
      replace HS := Lib.hid (HS.out.below b)
      replace RB := Lib.hid (RB.out.below dataR_keeps b)
      replace L7 := Lib.hid (L7.out.below b)
      replace RD := Lib.hid (RD.out.below dataR_keeps b)
      replace HB := Lib.hid (below_then HB.out b)
      clear h
      clear b
      obtain ⟨w9, hw9⟩ : ∃ V, V = w8.alloc (lineBox z10) := ⟨_, rfl⟩
      have Hw9 := Lib.hid hw9
      have b : Below w8.heap.size w8 w9 := by rw [hw9]; exact below_new (Below.refl _ _) _
      have R10 : Hid (w9.heap[w8.heap.size]? = some (lineBox z10)) := by rw [hw9]; exact heap_alloc_new _ _
      replace R0 := Lib.hid (row_below R0.out b)
      replace R1 := Lib.hid (row_below R1.out b)
      replace R2 := Lib.hid (row_below R2.out b)
      replace R7 := Lib.hid (row_below R7.out b)
      replace R9 := Lib.hid (row_below R9.out b)
      replace HS := Lib.hid (HS.out.below b)
      replace RB := Lib.hid (RB.out.below dataR_keeps b)
      replace L7 := Lib.hid (L7.out.below b)
      replace RD := Lib.hid (RD.out.below dataR_keeps b)
      replace HB := Lib.hid (below_then HB.out b)
      clear b hw9
      go_upto_region 6 with fail
      rw [show w8.alloc (lineBox z10) = w9 from Hw9.out.symm]
      clear Hw9
      generalize w8.heap.size = g10 at R10 ⊢
      have R1_0 := base_row R1.out
      have R2_0 := cell_row R2.out 0
      have R2_1 := cell_row R2.out 1
      have R2_2 := cell_row R2.out 2
      try dsimp only [Array.getElem?_toList] at R2_0 R2_1 R2_2
      go_wp2_with fail
      refine (get_is RB.out HF.out.ok ho3).mono ?_
      rintro e w10 ⟨z12, rfl, h, b⟩
      clear R1_0 R2_0 R2_1 R2_2
      replace R0 := Lib.hid (row_below R0.out b)
      replace R1 := Lib.hid (row_below R1.out b)
      replace R2 := Lib.hid (row_below R2.out b)
      replace R7 := Lib.hid (row_below R7.out b)
      replace R9 := Lib.hid (row_below R9.out b)
      replace R10 := Lib.hid (row_below R10.out b)
      replace HS := Lib.hid (HS.out.below b)
      replace RB := Lib.hid (RB.out.below dataR_keeps b)
      replace L7 := Lib.hid (L7.out.below b)
      replace RD := Lib.hid (RD.out.below dataR_keeps b)
      replace HB := Lib.hid (below_then HB.out b)
      have L12 := Lib.hid h
      clear h
      clear b
      obtain ⟨w11, hw11⟩ : ∃ V, V = w10.alloc (lineBox z12) := ⟨_, rfl⟩
      have Hw11 := Lib.hid hw11
      have b : Below w10.heap.size w10 w11 := by rw [hw11]; exact below_new (Below.refl _ _) _
      have R12 : Hid (w11.heap[w10.heap.size]? = some (lineBox z12)) := by rw [hw11]; exact heap_alloc_new _ _
      replace R0 := Lib.hid (row_below R0.out b)
      replace R1 := Lib.hid (row_below R1.out b)
      replace R2 := Lib.hid (row_below R2.out b)
      replace R7 := Lib.hid (row_below R7.out b)
      replace R9 := Lib.hid (row_below R9.out b)
      replace R10 := Lib.hid (row_below R10.out b)
      replace HS := Lib.hid (HS.out.below b)
      replace RB := Lib.hid (RB.out.below dataR_keeps b)
      replace L7 := Lib.hid (L7.out.below b)
      replace RD := Lib.hid (RD.out.below dataR_keeps b)
      replace L12 := Lib.hid (L12.out.below b)
      replace HB := Lib.hid (below_then HB.out b)
      clear b hw11
      go_upto_region 7 with fail
      rw [show w10.alloc (lineBox z12) = w11 from Hw11.out.symm]
      clear Hw11
      generalize w10.heap.size = g12 at R12 ⊢
      have R9_0 := base_row R9.out
      have R2_0 := cell_row R2.out 0
      have R2_1 := cell_row R2.out 1
      have R2_2 := cell_row R2.out 2
      try dsimp only [Array.getElem?_toList] at R2_0 R2_1 R2_2
      go_wp2_with fail
      refine (get_is RD.out OD.out ho4).mono ?_
      rintro e w12 ⟨z14, rfl, h, b⟩
      clear R9_0 R2_0 R2_1 R2_2
      replace R0 := Lib.hid (row_below R0.out b)
      replace R1 := Lib.hid (row_below R1.out b)
      replace R2 := Lib.hid (row_below R2.out b)
      replace R7 := Lib.hid (row_below R7.out b)
      replace R9 := Lib.hid (row_below R9.out b)
      replace R10 := Lib.hid (row_below R10.out b)
      replace R12 := Lib.hid (row_below R12.out b)
      replace HS := Lib.hid (HS.out.below b)
      replace RB := Lib.hid (RB.out.below dataR_keeps b)
      replace L7 := Lib.hid (L7.out.below b)
      replace RD := Lib.hid (RD.out.below dataR_keeps b)
      replace L12 := Lib.hid (L12.out.below b)
      replace HB := Lib.hid (below_then HB.out b)
      have L14 := Lib.hid h
      clear h
      clear b
      obtain ⟨w13, hw13⟩ : ∃ V, V = w12.alloc (lineBox z14) := ⟨_, rfl⟩
      have Hw13 := Lib.hid hw13
      have b : Below w12.heap.size w12 w13 := by rw [hw13]; exact below_new (Below.refl _ _) _
      have R14 : Hid (w13.heap[w12.heap.size]? = some (lineBox z14)) := by rw [hw13]; exact heap_alloc_new _ _
      replace R0 := Lib.hid (row_below R0.out b)
      replace R1 := Lib.hid (row_below R1.out b)
      replace R2 := Lib.hid (row_below R2.out b)
      replace R7 := Lib.hid (row_below R7.out b)
      replace R9 := Lib.hid (row_below R9.out b)
      replace R10 := Lib.hid (row_below R10.out b)
      replace R12 := Lib.hid (row_below R12.out b)
      replace HS := Lib.hid (HS.out.below b)
      replace RB := Lib.hid (RB.out.below dataR_keeps b)
      replace L7 := Lib.hid (L7.out.below b)
      replace RD := Lib.hid (RD.out.below dataR_keeps b)
      replace L12 := Lib.hid (L12.out.below b)
      replace L14 := Lib.hid (L14.out.below b)
      replace HB := Lib.hid (below_then HB.out b)
      clear b hw13
      go_upto_region 8 with fail
      rw [show w12.alloc (lineBox z14) = w13 from Hw13.out.symm]
      clear Hw13
      generalize w12.heap.size = g14 at R14 ⊢
      clear GN ho3 ho4
      go_cut [89] from 74 to 89 (fun s wz => s = .bool false ∧ Hid (Below w13.heap.size w13 wz))
      case first =>
        have R2_0 := cell_row R2.out 0
        have R2_1 := cell_row R2.out 1
        have R2_2 := cell_row R2.out 2
        try dsimp only [Array.getElem?_toList] at R2_0 R2_1 R2_2
        obtain ⟨R12_0, R12_1, R12_2⟩ := line_row R12.out
        obtain ⟨R14_0, R14_1, R14_2⟩ := line_row R14.out
        clear HF DN DB OD RT OL HB HS RB RD L7
        by_cases hyz : y = z
        · have e1 : (y != z) = false := by simp [hyz]
          go_wp2_with fail
          go_meet
          exact ⟨rfl, Below.refl _ _⟩
        · have e1 : (y != z) = true := by simp [hyz]
          obtain ⟨rfl, rfl⟩ := G4.out hyz
          cases q4
          all_goals
            go_wp2_with fail
            refine (sameLine_is L12.out L14.out rfl).mono ?_
            rintro e wx ⟨rfl, bb⟩
            have HV := Lib.hid bb
            clear bb
            go_wp2_with fail
            go_meet
            exact ⟨rfl, HV⟩
      case rest =>
      obtain ⟨rfl, hbb⟩ := hcut
      have b := hbb.out
      clear hbb G4
      replace R0 := Lib.hid (row_below R0.out b)
      replace R1 := Lib.hid (row_below R1.out b)
      replace R2 := Lib.hid (row_below R2.out b)
      replace R7 := Lib.hid (row_below R7.out b)
      replace R9 := Lib.hid (row_below R9.out b)
      replace R10 := Lib.hid (row_below R10.out b)
      replace R12 := Lib.hid (row_below R12.out b)
      replace R14 := Lib.hid (row_below R14.out b)
      replace HS := Lib.hid (HS.out.below b)
      replace RB := Lib.hid (RB.out.below dataR_keeps b)
      replace L7 := Lib.hid (L7.out.below b)
      replace RD := Lib.hid (RD.out.below dataR_keeps b)
      replace HB := Lib.hid (below_then HB.out b)
      clear b L12 L14
      generalize wc = w14 at R0 R1 R2 R7 R9 R10 R12 R14 HS RB L7 RD HB ⊢
      cases o1 with
      | none =>
        obtain rfl : D = b := DN.out rfl
        obtain rfl : q1 = false := ho1.out.2.symm
        clear DN DB OD RT OL hr
        go_wp2_with fail
        refine (alive13_any _).mono ?_
        rintro e w15 ⟨rfl, b⟩
        replace R0 := Lib.hid (row_below R0.out b)
        replace R1 := Lib.hid (row_below R1.out b)
        replace R2 := Lib.hid (row_below R2.out b)
        replace R7 := Lib.hid (row_below R7.out b)
        replace R9 := Lib.hid (row_below R9.out b)
        replace R10 := Lib.hid (row_below R10.out b)
        replace R12 := Lib.hid (row_below R12.out b)
        replace R14 := Lib.hid (row_below R14.out b)
        replace HS := Lib.hid (HS.out.below b)
        replace RB := Lib.hid (RB.out.below dataR_keeps b)
        replace L7 := Lib.hid (L7.out.below b)
        replace RD := Lib.hid (RD.out.below dataR_keeps b)
        replace HB := Lib.hid (below_then HB.out b)
        clear b
        have R9_0 := base_row R9.out
        have R1_0 := base_row R1.out
        go_wp2_with fail
        refine (same_is RD.out RB.out rfl).mono ?_
        rintro e wz ⟨rfl, bz⟩
        have HZ := Lib.hid (below_then HB.out bz)
        clear bz
        go_wp2_with fail
        go_ret
        exact ⟨rfl, HZ.out⟩
      | some v =>
        obtain rfl : q1 = true := ho1.out.2.symm
        have HPB : Hid (putB13 D x v = b) := DB.out v rfl
        have HLV : Hid (LineOk v) := OL.out v rfl
        have L7 : Hid (LineR w14 z7 v) := L7
        clear DN DB OL ho1
        obtain ⟨DRT, hDRT⟩ : ∃ q : Bool, Hid (q = true) := ⟨_, rfl⟩
        have C1 : Hid (∀ W, Below w14.heap.size w14 W → Calls Tryz.prog 12 #[.agg #[.slice A n c], .agg #[.slice xa m xc]] W fun e w' => e = .returned (.bool true) ∧ Below W.heap.size W w') := fun W hW => right_is (HS.out.below hW) (RD.out.below dataR_keeps hW) OD.out RT
        have C2 : Hid (∀ W, Below w14.heap.size w14 W → Calls Tryz.prog 20 #[.agg #[.slice xa m xc], .int .i64 x, .int .i64 y] W fun e w' => ∃ (za : Option Addr) (zc : Nat), e = .returned (.agg #[.slice za m zc]) ∧ RdB w' za m zc D ∧ Below W.heap.size W w') := fun W hW => drop_is (RD.out.below dataR_keeps hW) OD.out DD
        have C3 : Hid (∀ W, Below w14.heap.size w14 W → Calls Tryz.prog 18 #[.agg #[.slice xa m xc], .int .i64 x, z7.agg] W fun e w' => ∃ (za : Option Addr) (zc : Nat), e = .returned (.agg #[.slice za m zc]) ∧ RdB w' za m zc b ∧ Below W.heap.size W w') := fun W hW => put_is (RD.out.below dataR_keeps hW) OD.out (L7.out.below hW) HLV.out HPB
        have C4 : Hid (∀ W za zc, Below w14.heap.size w14 W → RdB W za m zc D → Calls Tryz.prog 14 #[.agg #[.slice za m zc], .agg #[.slice xa m xc]] W fun e w' => e = .returned (.bool true) ∧ Below W.heap.size W w') := fun W za zc hW h => same_is h (RD.out.below dataR_keeps hW) rfl
        have C5 : Hid (∀ W za zc, Below w14.heap.size w14 W → RdB W za m zc b → Calls Tryz.prog 14 #[.agg #[.slice za m zc], .agg #[.slice B m d]] W fun e w' => e = .returned (.bool true) ∧ Below W.heap.size W w') := fun W za zc hW h => same_is h (RB.out.below dataR_keeps hW) rfl
        clear hDRT DRT HPB HLV DD hD OD RT hr HF
        go_upto_region 12 with fail
        have R0_0 := sch_row R0.out
        have R1_0 := base_row R1.out
        have R2_0 := cell_row R2.out 0
        have R2_1 := cell_row R2.out 1
        have R2_2 := cell_row R2.out 2
        try dsimp only [Array.getElem?_toList] at R2_0 R2_1 R2_2
        obtain ⟨R7_0, R7_1, R7_2⟩ := line_row R7.out
        have R9_0 := base_row R9.out
        clear R0 R1 R2 R7 R9 R10 R12 R14 HS RB RD L7
        have hS0 : Below w14.heap.size w14 w14 ∧ World.cell? w14 ⟨w.heap.size, 0, none⟩ = some (.slice A n c) ∧ World.cell? w14 ⟨w.heap.size + 1, 0, none⟩ = some (.slice B m d) ∧ World.cell? w14 ⟨w.heap.size + 1 + 1, 0, none⟩ = some (.int .i64 x) ∧ World.cell? w14 ⟨w.heap.size + 1 + 1, 1, none⟩ = some (.int .i64 y) ∧ World.cell? w14 ⟨g7, 0, none⟩ = some (.int .i64 z7.key) ∧ World.cell? w14 ⟨g7, 1, none⟩ = some (.slice z7.ca z7.cn z7.cc) ∧ World.cell? w14 ⟨g7, 2, none⟩ = some (.slice z7.ba z7.bn z7.bc) ∧ World.cell? w14 ⟨g9, 0, none⟩ = some (.slice xa m xc) := ⟨Below.refl _ _, R0_0, R1_0, R2_0, R2_1, R7_0, R7_1, R7_2, R9_0⟩
        have K : Hid (∀ W W' : World, (Below w14.heap.size w14 W ∧ World.cell? W ⟨w.heap.size, 0, none⟩ = some (.slice A n c) ∧ World.cell? W ⟨w.heap.size + 1, 0, none⟩ = some (.slice B m d) ∧ World.cell? W ⟨w.heap.size + 1 + 1, 0, none⟩ = some (.int .i64 x) ∧ World.cell? W ⟨w.heap.size + 1 + 1, 1, none⟩ = some (.int .i64 y) ∧ World.cell? W ⟨g7, 0, none⟩ = some (.int .i64 z7.key) ∧ World.cell? W ⟨g7, 1, none⟩ = some (.slice z7.ca z7.cn z7.cc) ∧ World.cell? W ⟨g7, 2, none⟩ = some (.slice z7.ba z7.bn z7.bc) ∧ World.cell? W ⟨g9, 0, none⟩ = some (.slice xa m xc)) → Below W.heap.size W W' → (Below w14.heap.size w14 W' ∧ World.cell? W' ⟨w.heap.size, 0, none⟩ = some (.slice A n c) ∧ World.cell? W' ⟨w.heap.size + 1, 0, none⟩ = some (.slice B m d) ∧ World.cell? W' ⟨w.heap.size + 1 + 1, 0, none⟩ = some (.int .i64 x) ∧ World.cell? W' ⟨w.heap.size + 1 + 1, 1, none⟩ = some (.int .i64 y) ∧ World.cell? W' ⟨g7, 0, none⟩ = some (.int .i64 z7.key) ∧ World.cell? W' ⟨g7, 1, none⟩ = some (.slice z7.ca z7.cn z7.cc) ∧ World.cell? W' ⟨g7, 2, none⟩ = some (.slice z7.ba z7.bn z7.bc) ∧ World.cell? W' ⟨g9, 0, none⟩ = some (.slice xa m xc))) := by
          show ∀ W W' : World, _
          rintro W W' ⟨kb, k0, k1, k2, k3, k4, k5, k6, k7⟩ hb
          exact ⟨below_then kb hb, (hb.cell (World.block_lt_of_cell? _ _ k0)).trans k0, (hb.cell (World.block_lt_of_cell? _ _ k1)).trans k1, (hb.cell (World.block_lt_of_cell? _ _ k2)).trans k2, (hb.cell (World.block_lt_of_cell? _ _ k3)).trans k3, (hb.cell (World.block_lt_of_cell? _ _ k4)).trans k4, (hb.cell (World.block_lt_of_cell? _ _ k5)).trans k5, (hb.cell (World.block_lt_of_cell? _ _ k6)).trans k6, (hb.cell (World.block_lt_of_cell? _ _ k7)).trans k7⟩
        clear R0_0 R1_0 R2_0 R2_1 R2_2 R7_0 R7_1 R7_2 R9_0
        go_region_held3 (fun W => Below w14.heap.size w14 W ∧ World.cell? W ⟨w.heap.size, 0, none⟩ = some (.slice A n c) ∧ World.cell? W ⟨w.heap.size + 1, 0, none⟩ = some (.slice B m d) ∧ World.cell? W ⟨w.heap.size + 1 + 1, 0, none⟩ = some (.int .i64 x) ∧ World.cell? W ⟨w.heap.size + 1 + 1, 1, none⟩ = some (.int .i64 y) ∧ World.cell? W ⟨g7, 0, none⟩ = some (.int .i64 z7.key) ∧ World.cell? W ⟨g7, 1, none⟩ = some (.slice z7.ca z7.cn z7.cc) ∧ World.cell? W ⟨g7, 2, none⟩ = some (.slice z7.ba z7.bn z7.bc) ∧ World.cell? W ⟨g9, 0, none⟩ = some (.slice xa m xc))
          (first
            | exact K.out _ _ hS0 ((Below.refl _ _).drew)
            | exact K.out _ _ (by assumption) bb
            | exact K.out _ _ (by assumption) (below_new (Below.refl _ _) _))
          (first
            | (go_at_call 11; refine (alive13_any _).mono ?_; rintro e wx ⟨rfl, bb⟩)
            | (go_at_call 12; refine (C1.out _ (by go_split_ands; assumption)).mono ?_; rintro e wx ⟨rfl, bb⟩)
            | (go_at_call 20; refine (C2.out _ (by go_split_ands; assumption)).mono ?_; rintro e wx ⟨za, zc, rfl, h, bb⟩; have RZ1 := Lib.hid h; clear h)
            | (go_at_call 18; refine (C3.out _ (by go_split_ands; assumption)).mono ?_; rintro e wx ⟨zb, ze, rfl, h, bb⟩; have RZ2 := Lib.hid h; clear h)
            | (go_at_call 14; refine (C5.out _ _ _ (by go_split_ands; assumption) RZ2.out).mono ?_; rintro e wx ⟨rfl, bb⟩)
            | (go_at_call 14; refine (C4.out _ _ _ (by go_split_ands; assumption) RZ1.out).mono ?_; rintro e wx ⟨rfl, bb⟩))
        all_goals
          go_split_ands
          have HZ := Lib.hid (below_then HB.out (show Below w14.heap.size w14 _ by assumption))
          go_wp2_with fail
          go_ret
          exact ⟨rfl, HZ.out⟩
set_option maxRecDepth 100000 in
theorem contract (H : Type) (enc : TypeId × Value → H) (W : World) (base : Nat) (args : Array Value) (ds gs : List (DataW H)) (before : List MemPlace)
    (hval : ∀ (j : Nat) t v, Tryz.f6.params[j]? = some t → args[j]? = some v → Value.okWide Tryz.prog W .any base t v)
    (hW : DataW.Whole enc Tryz.prog Tryz.f6.params.toList Rows.baseDropSpec.vars false W args.toList ds gs before)
    (hsz : (DataW.weightsEach Tryz.prog (Tryz.f6.params.toList ++ Rows.baseDropSpec.plain.varTypes Tryz.prog) (ds ++ gs)).all (· ≤ reachBytes) = true) :
    Calls Tryz.prog 6 args W fun e W' => ∃ v, e = .returned v ∧ Rows.baseDropSpec.post enc Tryz.prog Tryz.f6 false true false false W args v W' := by
  have hlt : ∀ x ∈ before, x.block < W.heap.size := fun x hx => by simpa using hW.lt x hx
  refine law_step 4 Tryz.laid_ (by kernel_rfl) rfl Tryz.underlying4 rfl hW (fun xs hx => ?_) ?_
  · match xs, hx with
    | [d0, d1, d2], _ => rfl
  · obtain ⟨p, q, hA0, hV, rfl, _, _⟩ := hW
    have hA : DataW.TrodAll enc Tryz.prog W 0 (fun _ => true) true Tryz.f6.params.toList args.toList ds p := hA0
    rw [Tryz.params6] at hA hval hsz
    obtain ⟨v0, vs0, d0, ds0, p0, q0, e0, rfl, rfl, h0, r0⟩ := trodAll_cons hA
    obtain ⟨v1, vs1, d1, ds1, p1, q1, e1, rfl, rfl, h1, r1⟩ := trodAll_cons r0
    obtain ⟨v2, vs2, d2, ds2, p2, q2, e2, rfl, rfl, h2, r2⟩ := trodAll_cons r1
    obtain ⟨rfl, rfl, rfl⟩ := trodAll_nil r2
    subst e2
    subst e1
    obtain rfl : args = #[v0, v1, v2] := by cases args; simp_all
    clear e0 hA0
    have hw0 : ∀ x ∈ d0.weights Tryz.prog 24, x ≤ reachBytes := fun x hx => by simpa using List.all_eq_true.1 hsz _ (DataW.weights_mem_each (j := 0) rfl rfl x hx)
    obtain ⟨A0, n0, c0, l0, rfl, rd0, sm0⟩ := open_schema (hval 0 24 v0 rfl rfl) h0 hw0
    have hw1 : ∀ x ∈ d1.weights Tryz.prog 27, x ≤ reachBytes := fun x hx => by simpa using List.all_eq_true.1 hsz _ (DataW.weights_mem_each (j := 1) rfl rfl x hx)
    obtain ⟨A1, n1, c1, l1, rfl, rd1, sm1⟩ := open_base (hval 1 27 v1 rfl rfl) h1 hw1
    obtain ⟨x2, y2, z2, rfl⟩ := open_arr3 (hval 2 49 v2 rfl rfl) h2
    exact walk A0 n0 c0 l0 A1 n1 c1 l1 x2 y2 z2 W rd0 rd1 sm1
set_option maxRecDepth 100000 in
theorem lifted (os : Os) (started : os.Started) (H : Type) (enc : TypeId × Value → H) :
    ReturnsInHanded {} Tryz.checked os 6 .any (Rows.baseDropSpec.pre6 enc Tryz.prog Tryz.f6 Rows.baseDropRow.domain false) (Rows.baseDropSpec.post enc Tryz.prog Tryz.f6 false true false false) := by
  refine returnsInHanded_of_change_sized (C := Tryz.checked) Tryz.own_ started (by kernel_rfl) Tryz.func6
    (ChangeSpec.witness6 (enc := enc) (C := Tryz.checked) false ⟨#[], #[.agg #[.slice none 0 0], .agg #[.slice none 0 0], .agg #[.int .i64 0, .int .i64 0, .int .i64 0]], []⟩ 8 (by kernel_rfl) (by kernel_rfl) (by kernel_rfl) (by kernel_rfl)) ?_
  intro W base args ds gs before hval hW _ hsz _
  exact contract H enc W base args ds gs before hval hW hsz
theorem holds : Rows.BaseDropSaid :=
  OpenClaim.holds_of_wide 6 Tryz.f6 rfl rfl rfl rfl rfl rfl rfl ⟨rfl, rfl, rfl, rfl, rfl⟩ rfl rfl rfl rfl rfl (by kernel_rfl) Tryz.func6 (by kernel_rfl)
    (of_decide_eq_true (by kernel_rfl)) (by unfold Func.isWrapper; first | (rw [if_pos (by decide +kernel)]; kernel_rfl) | (rw [if_neg (by decide +kernel)]; exact ⟨rfl, rfl⟩))
    (fun os started H enc _ => lifted os started H enc)
end Go.Proofs.YtfljhnalmiibeaaGreat.baseDrop

