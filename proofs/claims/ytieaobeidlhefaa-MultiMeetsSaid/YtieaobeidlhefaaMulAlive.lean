/- Layer 7: the chapter's examples. -/
import Derived.Test.YtieaobeidlhefaaMbVal
import Derived.Deep.CutBlock
import Derived.Deep.CutRange
namespace Go.Proofs.Ytieaobeidlhefaa
set_option maxRecDepth 100000
open Go.RowKit Go.Sort Srt

theorem nested_row (w : World) (o o' : Obj) : ((w.alloc o).alloc o').heap[w.heap.size]? = some o := row_below (heap_alloc_new w o) (below_new (Below.refl _ _) o')
theorem second_row (w : World) (o o' : Obj) : ((w.alloc o).alloc o').heap[w.heap.size + 1]? = some o' := by
  have := heap_alloc_new (w.alloc o) o'
  rwa [World.size_alloc] at this
theorem rows_ne {w : World} {g g' : Nat} {o o' : Obj} (h : w.heap[g]? = some o) (h' : w.heap[g']? = some o') (hne : o ≠ o') : g ≠ g' := by
  rintro rfl
  rw [h] at h'
  exact hne (by injection h')

set_option maxHeartbeats 12800000 in
theorem alive7_any (w : World) : Calls Try.prog 16 #[] w fun e w' => e = .returned (.bool true) ∧ Below w.heap.size w w' := by
  have h1 := heap_alloc_new w (cellRow 1 zeroVal (.slice none 0 0))
  obtain ⟨w1, hw1⟩ : ∃ w1, w1 = w.alloc (cellRow 1 zeroVal (.slice none 0 0)) := ⟨_, rfl⟩
  have HB : Hid (Below w.heap.size w w1) := by rw [hw1]; exact below_new (Below.refl _ _) _
  rw [← hw1] at h1
  have RC := Lib.hid h1
  have HW1 := Lib.hid hw1
  clear h1 hw1
  obtain ⟨g, hg⟩ : ∃ g, g = w.heap.size := ⟨_, rfl⟩
  have HG := Lib.hid hg
  rw [← hg] at RC
  clear hg
  go_enter Try.func16, Try.ntmps16
  go_upto_region 2 with fail
  rw [← HG.out, show w.alloc (Obj.cells #[Value.int .i64 1, .int .i64 0, .int .i64 0, .string ⟨#[]⟩, .slice none 0 0] 26) = w1 from HW1.out.symm]
  clear HW1
  have RD : Hid (RdP w1 none 0 0 []) := RdG.nil_ _
  have W1 : Hid (∀ W : World, Below w1.heap.size w1 W → Calls Try.prog 20 #[cellV 1 zeroVal (.slice none 0 0), (numV 5).agg, (⟨1, 1⟩ : D2).agg, .slice none 0 0] W fun e w' => ∃ A' c', e = .returned (cellV 1 zeroVal (.slice A' 1 c')) ∧ RdP w' A' 1 c' [p5] ∧ Below W.heap.size W w') := by
    intro W hW
    exact write_is 1 zeroVal none 0 0 [] (numV 5) ⟨1, 1⟩ none 0 0 [] W (RD.out.below hW) (by omega) (Rd.nil_ _) [p5] 1 al_w1 rfl
  go_upto_region 2 with fail
  go_cut [0] from 4 to 8 (fun s wz => s = .bool false ∧ ∃ A d, Hid (wz.heap[g]? = some (cellRow 1 zeroVal (.slice A 1 d))) ∧ Hid (RdP wz A 1 d [p5]) ∧ Hid (Below w.heap.size w wz))
  case first =>
    obtain ⟨c0, c1, c2, c3, c4⟩ := cell_row5 RC.out
    dsimp only at c0 c1 c2 c3 c4
    go_region_with (first
      | (go_at_call 49; refine (lawNum_any 5 _).mono ?_; rintro e wx ⟨rfl, bb⟩; have bx := below_then (by first | exact (Below.refl w1.heap.size w1).drew | exact ((Below.refl w1.heap.size w1).alloc (Nat.le_refl _) _).drew | exact (((Below.refl w1.heap.size w1).alloc (Nat.le_refl _) _).alloc (by simp) _).drew) bb; clear bb; have hr := row_below RC.out bx; obtain ⟨x0, x1, x2, x3, x4⟩ := cell_row5 hr; dsimp only at x0 x1 x2 x3 x4; clear hr)
      | (go_at_call 20; refine (W1.out _ bx).mono ?_; rintro e wy ⟨A9, d9, rfl, hrd, bb⟩; have by' := below_then bx bb; clear bb; have hr := row_below RC.out by'; obtain ⟨y0, y1, y2, y3, y4⟩ := cell_row5 hr; have f0 := frozen_row hr; dsimp only at y0 y1 y2 y3 y4; have HR := Lib.hid hr; have HRD := Lib.hid hrd; have HB9 := Lib.hid (below_then HB.out by'); clear hr hrd))
    all_goals
      have hgw : w.heap.size ≤ g := by rw [HG.out]; exact Nat.le_refl _
      have T1 := Lib.hid (set5 (x := .int .i64 1) (y := .int .i64 0) (z := .int .i64 0) (u := .string ⟨#[]⟩) (v := .slice A9 1 d9) HR.out)
      have T2 := Lib.hid (rdp_set5 HRD.out HR.out (.int .i64 1) (.int .i64 0) (.int .i64 0) (.string ⟨#[]⟩) (.slice A9 1 d9))
      have T3 := Lib.hid (below_set5 (x := .int .i64 1) (y := .int .i64 0) (z := .int .i64 0) (a := .string ⟨#[]⟩) (b := .slice A9 1 d9) HB9.out hgw)
      go_wp2_with fail
      go_meet
      exact ⟨rfl, _, _, T1, T2, T3⟩
  case rest =>
  obtain ⟨rfl, A2, d2, hRC, hRD, hHB⟩ := hcut
  clear RC RD HB W1
  have RC := hRC; have RD := hRD; have HB := hHB
  clear hRC hRD hHB
  generalize wc = w2 at RC RD HB ⊢
  have W1 : Hid (∀ W : World, Below w2.heap.size w2 W → Calls Try.prog 20 #[cellV 1 zeroVal (.slice A2 1 d2), (numV 7).agg, (⟨2, 1⟩ : D2).agg, .slice none 0 0] W fun e w' => ∃ A' c', e = .returned (cellV 1 zeroVal (.slice A' 2 c')) ∧ RdP w' A' 2 c' [p5, p7] ∧ Below W.heap.size W w') := by
    intro W hW
    exact write_is 1 zeroVal A2 1 d2 [p5] (numV 7) ⟨2, 1⟩ none 0 0 [] W (RD.out.below hW) (by omega) (Rd.nil_ _) [p5, p7] 2 al_w2 rfl
  go_upto_region 3 with fail
  go_cut [0] from 9 to 12 (fun s wz => s = .bool false ∧ ∃ A d, Hid (wz.heap[g]? = some (cellRow 1 zeroVal (.slice A 2 d))) ∧ Hid (RdP wz A 2 d [p5, p7]) ∧ Hid (Below w.heap.size w wz))
  case first =>
    obtain ⟨c0, c1, c2, c3, c4⟩ := cell_row5 RC.out
    dsimp only at c0 c1 c2 c3 c4
    go_region_with (first
      | (go_at_call 49; refine (lawNum_any 7 _).mono ?_; rintro e wx ⟨rfl, bb⟩; have bx := below_then (by first | exact (Below.refl w2.heap.size w2).drew | exact ((Below.refl w2.heap.size w2).alloc (Nat.le_refl _) _).drew | exact (((Below.refl w2.heap.size w2).alloc (Nat.le_refl _) _).alloc (by simp) _).drew) bb; clear bb; have hr := row_below RC.out bx; obtain ⟨x0, x1, x2, x3, x4⟩ := cell_row5 hr; dsimp only at x0 x1 x2 x3 x4; clear hr)
      | (go_at_call 20; refine (W1.out _ bx).mono ?_; rintro e wy ⟨A9, d9, rfl, hrd, bb⟩; have by' := below_then bx bb; clear bb; have hr := row_below RC.out by'; obtain ⟨y0, y1, y2, y3, y4⟩ := cell_row5 hr; have f0 := frozen_row hr; dsimp only at y0 y1 y2 y3 y4; have HR := Lib.hid hr; have HRD := Lib.hid hrd; have HB9 := Lib.hid (below_then HB.out by'); clear hr hrd))
    all_goals
      have hgw : w.heap.size ≤ g := by rw [HG.out]; exact Nat.le_refl _
      have T1 := Lib.hid (set5 (x := .int .i64 1) (y := .int .i64 0) (z := .int .i64 0) (u := .string ⟨#[]⟩) (v := .slice A9 2 d9) HR.out)
      have T2 := Lib.hid (rdp_set5 HRD.out HR.out (.int .i64 1) (.int .i64 0) (.int .i64 0) (.string ⟨#[]⟩) (.slice A9 2 d9))
      have T3 := Lib.hid (below_set5 (x := .int .i64 1) (y := .int .i64 0) (z := .int .i64 0) (a := .string ⟨#[]⟩) (b := .slice A9 2 d9) HB9.out hgw)
      go_wp2_with fail
      go_meet
      exact ⟨rfl, _, _, T1, T2, T3⟩
  case rest =>
  obtain ⟨rfl, A3, d3, hRC, hRD, hHB⟩ := hcut
  clear RC RD HB W1
  have RC := hRC; have RD := hRD; have HB := hHB
  clear hRC hRD hHB
  generalize wc = w3 at RC RD HB ⊢
  have W1 : Hid (∀ (W : World) (b : Nat), Below w3.heap.size w3 W → W.heap[b]? = some (.cells #[.int .i64 1] 3) → Calls Try.prog 20 #[cellV 1 zeroVal (.slice A3 2 d3), (numV 6).agg, (⟨1, 2⟩ : D2).agg, .slice (some ⟨b, 0, none⟩) 1 1] W fun e w' => ∃ A' c', e = .returned (cellV 1 zeroVal (.slice A' 2 c')) ∧ RdP w' A' 2 c' [p6, p7] ∧ Below W.heap.size W w') := by
    intro W b hW hb
    exact write_is 1 zeroVal A3 2 d3 [p5, p7] (numV 6) ⟨1, 2⟩ (some ⟨b, 0, none⟩) 1 1 [1] W (RD.out.below hW) (by omega) (rowI_rd (z := [1]) hb rfl (by omega)) [p6, p7] 2 al_w3 rfl
  go_upto_region 4 with fail
  go_cut [2] from 13 to 17 (fun s wz => ∃ gd A d, s = .pointer (some ⟨gd, 0, none⟩) ∧ Hid (wz.heap[gd]? = some (cellRow 1 zeroVal (.slice A 2 d))) ∧ Hid (RdP wz A 2 d [p6, p7]) ∧ Hid (wz.heap[g]? = some (cellRow 1 zeroVal (.slice A3 2 d3))) ∧ Hid (RdP wz A3 2 d3 [p5, p7]) ∧ Hid (Below w.heap.size w wz))
  case first =>
    obtain ⟨c0, c1, c2, c3, c4⟩ := cell_row5 RC.out
    dsimp only at c0 c1 c2 c3 c4
    have hA : ∀ (o : Obj) (b j : Nat) (z : Value), w3.cell? ⟨b, j, none⟩ = some z → (w3.alloc o).cell? ⟨b, j, none⟩ = some z := fun o b j z h => (World.cell?_alloc_lt w3 o ⟨b, j, none⟩ (block_lt_of_cell h)).trans h
    have hgl : g < w3.heap.size := block_lt_of_cell c0
    go_region_with (first
      | (go_at_call 49; refine (lawNum_any 6 _).mono ?_; rintro e wx ⟨rfl, bb⟩; have bx := below_then (by first | exact (Below.refl w3.heap.size w3).drew | exact ((Below.refl w3.heap.size w3).alloc (Nat.le_refl _) _).drew | exact (((Below.refl w3.heap.size w3).alloc (Nat.le_refl _) _).alloc (by simp) _).drew) bb; (try (have hs9 := row_below (o := .cells #[.int .i64 1] 3) (by first | exact heap_alloc_new _ _ | exact nested_row _ _ _) bb; (try simp only [World.size_alloc] at hs9); have HS := Lib.hid hs9; clear hs9)); (try (have hz9 := row_below (o := cellRow 0 zeroVal (.slice none 0 0)) (by first | exact heap_alloc_new _ _ | exact nested_row _ _ _) bb; (try simp only [World.size_alloc] at hz9); have HZ := Lib.hid hz9; clear hz9)); clear bb; have hr := row_below RC.out bx; obtain ⟨x0, x1, x2, x3, x4⟩ := cell_row5 hr; dsimp only at x0 x1 x2 x3 x4; have hgx : g < wx.heap.size := block_lt_of_cell x0; have HRX := Lib.hid hr; clear hr)
      | (go_at_call 20; refine (W1.out _ _ (by first | exact bx | exact below_new bx _ | exact below_new (below_new bx _) _) (by first | exact HS.out | exact row_below HS.out (below_new (Below.refl _ _) _) | exact heap_alloc_new _ _ | exact nested_row _ _ _ | exact second_row _ _ _)).mono ?_; rintro e wy ⟨A9, d9, rfl, hrd, bb⟩; have by2 : Below wx.heap.size wx wy := (by first | exact bb | exact below_then (below_new (Below.refl _ _) _) bb | exact below_then (below_new (below_new (Below.refl _ _) _) _) bb); (first | (have HZ9 := Lib.hid (row_below HZ.out by2)) | (have hz9 := row_below (o := cellRow 0 zeroVal (.slice none 0 0)) (by first | exact heap_alloc_new _ _ | exact nested_row _ _ _) bb; (try simp only [World.size_alloc] at hz9); have HZ9 := Lib.hid hz9; clear hz9) | skip); (try (obtain ⟨e0, e1, e2, e3, e4⟩ := cell_row5 HZ9.out; have f0 := frozen_row HZ9.out; dsimp only at e0 e1 e2 e3 e4)); clear bb; have HRD := Lib.hid hrd; have HR9 := Lib.hid (row_below HRX.out by2); have HB9 := Lib.hid (below_then HB.out (below_then bx by2)); have HD9 := Lib.hid (RD.out.below (below_then bx by2)); clear hrd))
    all_goals
      first
        | (have hne := rows_ne HZ9.out HR9.out (by simp)
           have T1 := Lib.hid (set5 (x := .int .i64 1) (y := .int .i64 0) (z := .int .i64 0) (u := .string ⟨#[]⟩) (v := .slice A9 2 d9) HZ9.out)
           have T2 := Lib.hid (rdp_set5 HRD.out HZ9.out (.int .i64 1) (.int .i64 0) (.int .i64 0) (.string ⟨#[]⟩) (.slice A9 2 d9))
           have T3 := Lib.hid ((set5_other (w := wy) (x := .int .i64 1) (y := .int .i64 0) (z := .int .i64 0) (a := .string ⟨#[]⟩) (b := .slice A9 2 d9) hne).trans HR9.out)
           have T4 := Lib.hid (rdp_set5 HD9.out HZ9.out (.int .i64 1) (.int .i64 0) (.int .i64 0) (.string ⟨#[]⟩) (.slice A9 2 d9))
           have z1 := HB.out.size
           have z2 := bx.size
           clear c0 c1 c2 c3 c4 hA x0 x1 x2 x3 x4 W1 HRX hgl hgx
           try clear e0 e1 e2 e3 e4 f0
           try clear HS
           try clear HZ
           go_wp2_with fail
           go_meet
           exact ⟨_, _, _, rfl, T1, T2, T3, T4, below_set5 HB9.out (by omega)⟩)
        | (have T1 := Lib.hid (heap_alloc_new wy (cellRow 1 zeroVal (.slice A9 2 d9)))
           have T2 := Lib.hid (HRD.out.alloc (cellRow 1 zeroVal (.slice A9 2 d9)))
           have T3 := Lib.hid (row_below HR9.out (below_new (Below.refl _ _) (cellRow 1 zeroVal (.slice A9 2 d9))))
           have T4 := Lib.hid (HD9.out.alloc (cellRow 1 zeroVal (.slice A9 2 d9)))
           have T5 := Lib.hid (below_new HB9.out (cellRow 1 zeroVal (.slice A9 2 d9)))
           clear c0 c1 c2 c3 c4 hA x0 x1 x2 x3 x4 W1 HRX hgl hgx
           try clear e0 e1 e2 e3 e4 f0
           try clear HS
           try clear HZ
           go_wp2_with fail
           go_meet
           exact ⟨_, _, _, rfl, T1, T2, T3, T4, T5⟩)
  case rest =>
  obtain ⟨gd, Ad, dd, rfl, hR1, hR2, hR3, hR4, hR5⟩ := hcut
  clear RC RD HB W1
  have RC := hR3; have RD := hR4; have HB := hR5; have RE := hR1; have RF := hR2
  clear hR1 hR2 hR3 hR4 hR5
  generalize wc = w4 at RC RD HB RE RF ⊢
  have EQ7 := run_equalIn_val 1 7 1 7 ⟨#[]⟩ ⟨#[]⟩
  rw [show sameZ 1 7 ⟨#[]⟩ 1 7 ⟨#[]⟩ = true by simp [sameZ]] at EQ7
  have EQ0 := run_equalIn_val 0 0 0 0 ⟨#[]⟩ ⟨#[]⟩
  rw [show sameZ 0 0 ⟨#[]⟩ 0 0 ⟨#[]⟩ = true by simp [sameZ]] at EQ0
  obtain ⟨RC0, RC1, RC2, RC3, RC4⟩ := cell_row5 RC.out
  try dsimp only at RC0 RC1 RC2 RC3 RC4
  obtain ⟨RE0, RE1, RE2, RE3, RE4⟩ := cell_row5 RE.out
  try dsimp only at RE0 RE1 RE2 RE3 RE4
  go_wp2_with fail
  refine (join_is 1 zeroVal A3 2 d3 [p5, p7] 1 zeroVal Ad 2 dd [p6, p7] (some ⟨w4.heap.size, 0, none⟩) 2 2 [1, 1] (some ⟨w4.heap.size + 1, 0, none⟩) 2 2 [2, 1] _ (RD.out.below (below_new (below_new (Below.refl _ _) _) _)) (RF.out.below (below_new (below_new (Below.refl _ _) _) _)) (by omega) (rowI_rd (z := [1, 1]) (nested_row _ _ _) rfl (by omega)) (rowI_rd (z := [2, 1]) (second_row _ _ _) rfl (by omega)) [p6, p7] 2 al_j rfl).mono ?_
  rintro e w5 ⟨Aj, dj, rfl, hj, bb⟩
  replace bb := below_then (below_new (below_new (Below.refl _ _) _) _) bb
  replace RC := Lib.hid (row_below RC.out bb)
  replace RE := Lib.hid (row_below RE.out bb)
  replace RD := Lib.hid (RD.out.below bb)
  replace RF := Lib.hid (RF.out.below bb)
  replace HB := Lib.hid (below_then HB.out bb)
  clear bb
  have RJ := Lib.hid hj
  clear hj
  clear RC0 RC1 RC2 RC3 RC4 RE0 RE1 RE2 RE3 RE4
  obtain ⟨w6, hw⟩ : ∃ w', w' = w5.alloc (cellRow 1 zeroVal (.slice Aj 2 dj)) := ⟨_, rfl⟩
  have RI : Hid (w6.heap[w5.heap.size]? = some (cellRow 1 zeroVal (.slice Aj 2 dj))) := by rw [hw]; exact heap_alloc_new _ _
  have bb : Below w5.heap.size w5 w6 := by rw [hw]; exact below_new (Below.refl _ _) _
  replace hw := Lib.hid hw
  replace RC := Lib.hid (row_below RC.out bb)
  replace RE := Lib.hid (row_below RE.out bb)
  replace RD := Lib.hid (RD.out.below bb)
  replace RF := Lib.hid (RF.out.below bb)
  replace RJ := Lib.hid (RJ.out.below bb)
  replace HB := Lib.hid (below_then HB.out bb)
  clear bb
  go_upto_region 6 with fail
  rw [show w5.alloc (Obj.cells #[Value.int .i64 1, .int .i64 0, .int .i64 0, .string ⟨#[]⟩, .slice Aj 2 dj] 26) = w6 from hw.out.symm]
  clear hw
  generalize w5.heap.size = gRI at RI ⊢

  obtain ⟨RC0, RC1, RC2, RC3, RC4⟩ := cell_row5 RC.out
  try dsimp only at RC0 RC1 RC2 RC3 RC4
  go_wp2_with fail
  refine (values_is 1 zeroVal A3 2 d3 [p5, p7] _ RD.out (by omega) (by simp [P11.val, part0]) [numV 5, numV 7] al_s1).mono ?_
  rintro e w7 ⟨Ava, dva, rfl, hv, bb⟩
  replace RC := Lib.hid (row_below RC.out bb)
  replace RE := Lib.hid (row_below RE.out bb)
  replace RI := Lib.hid (row_below RI.out bb)
  replace RD := Lib.hid (RD.out.below bb)
  replace RF := Lib.hid (RF.out.below bb)
  replace RJ := Lib.hid (RJ.out.below bb)
  replace HB := Lib.hid (below_then HB.out bb)
  clear bb
  have RVa := Lib.hid hv
  clear hv
  clear RC0 RC1 RC2 RC3 RC4
  go_wp2_with fail
  refine (lawNum_any 5 _).mono ?_
  rintro e w8 ⟨rfl, bb⟩
  replace RC := Lib.hid (row_below RC.out bb)
  replace RE := Lib.hid (row_below RE.out bb)
  replace RI := Lib.hid (row_below RI.out bb)
  replace RD := Lib.hid (RD.out.below bb)
  replace RF := Lib.hid (RF.out.below bb)
  replace RJ := Lib.hid (RJ.out.below bb)
  replace RVa := Lib.hid (RVa.out.below bb)
  replace HB := Lib.hid (below_then HB.out bb)
  clear bb
  go_wp2_with fail
  refine (lawNum_any 7 _).mono ?_
  rintro e w9 ⟨rfl, bb⟩
  replace RC := Lib.hid (row_below RC.out bb)
  replace RE := Lib.hid (row_below RE.out bb)
  replace RI := Lib.hid (row_below RI.out bb)
  replace RD := Lib.hid (RD.out.below bb)
  replace RF := Lib.hid (RF.out.below bb)
  replace RJ := Lib.hid (RJ.out.below bb)
  replace RVa := Lib.hid (RVa.out.below bb)
  replace HB := Lib.hid (below_then HB.out bb)
  clear bb
  go_wp2_with fail
  refine (valsSame_any Ava (some ⟨w9.heap.size, 0, none⟩) 2 dva 2 [numV 5, numV 7] _ (RVa.out.below (below_new (Below.refl _ _) _)) (rdg_new v3len w9 [numV 5, numV 7] #[.int .i64 1, .int .i64 5, .string ⟨#[]⟩, .int .i64 1, .int .i64 7, .string ⟨#[]⟩] 23 (by rfl) rfl (by omega) rfl)).mono ?_
  rintro e w10 ⟨rfl, bb⟩
  replace bb := below_then (below_new (Below.refl _ _) _) bb
  replace RC := Lib.hid (row_below RC.out bb)
  replace RE := Lib.hid (row_below RE.out bb)
  replace RI := Lib.hid (row_below RI.out bb)
  replace RD := Lib.hid (RD.out.below bb)
  replace RF := Lib.hid (RF.out.below bb)
  replace RJ := Lib.hid (RJ.out.below bb)
  replace RVa := Lib.hid (RVa.out.below bb)
  replace HB := Lib.hid (below_then HB.out bb)
  clear bb
  clear RVa
  obtain ⟨RE0, RE1, RE2, RE3, RE4⟩ := cell_row5 RE.out
  try dsimp only at RE0 RE1 RE2 RE3 RE4
  go_wp2_with fail
  refine (values_is 1 zeroVal Ad 2 dd [p6, p7] _ RF.out (by omega) (by simp [P11.val, part0]) [numV 6, numV 7] al_s2).mono ?_
  rintro e w11 ⟨Avb, dvb, rfl, hv, bb⟩
  replace RC := Lib.hid (row_below RC.out bb)
  replace RE := Lib.hid (row_below RE.out bb)
  replace RI := Lib.hid (row_below RI.out bb)
  replace RD := Lib.hid (RD.out.below bb)
  replace RF := Lib.hid (RF.out.below bb)
  replace RJ := Lib.hid (RJ.out.below bb)
  replace HB := Lib.hid (below_then HB.out bb)
  clear bb
  have RVb := Lib.hid hv
  clear hv
  clear RE0 RE1 RE2 RE3 RE4
  go_wp2_with fail
  refine (lawNum_any 6 _).mono ?_
  rintro e w12 ⟨rfl, bb⟩
  replace RC := Lib.hid (row_below RC.out bb)
  replace RE := Lib.hid (row_below RE.out bb)
  replace RI := Lib.hid (row_below RI.out bb)
  replace RD := Lib.hid (RD.out.below bb)
  replace RF := Lib.hid (RF.out.below bb)
  replace RJ := Lib.hid (RJ.out.below bb)
  replace RVb := Lib.hid (RVb.out.below bb)
  replace HB := Lib.hid (below_then HB.out bb)
  clear bb
  go_wp2_with fail
  refine (lawNum_any 7 _).mono ?_
  rintro e w13 ⟨rfl, bb⟩
  replace RC := Lib.hid (row_below RC.out bb)
  replace RE := Lib.hid (row_below RE.out bb)
  replace RI := Lib.hid (row_below RI.out bb)
  replace RD := Lib.hid (RD.out.below bb)
  replace RF := Lib.hid (RF.out.below bb)
  replace RJ := Lib.hid (RJ.out.below bb)
  replace RVb := Lib.hid (RVb.out.below bb)
  replace HB := Lib.hid (below_then HB.out bb)
  clear bb
  go_wp2_with fail
  refine (valsSame_any Avb (some ⟨w13.heap.size, 0, none⟩) 2 dvb 2 [numV 6, numV 7] _ (RVb.out.below (below_new (Below.refl _ _) _)) (rdg_new v3len w13 [numV 6, numV 7] #[.int .i64 1, .int .i64 6, .string ⟨#[]⟩, .int .i64 1, .int .i64 7, .string ⟨#[]⟩] 23 (by rfl) rfl (by omega) rfl)).mono ?_
  rintro e w14 ⟨rfl, bb⟩
  replace bb := below_then (below_new (Below.refl _ _) _) bb
  replace RC := Lib.hid (row_below RC.out bb)
  replace RE := Lib.hid (row_below RE.out bb)
  replace RI := Lib.hid (row_below RI.out bb)
  replace RD := Lib.hid (RD.out.below bb)
  replace RF := Lib.hid (RF.out.below bb)
  replace RJ := Lib.hid (RJ.out.below bb)
  replace RVb := Lib.hid (RVb.out.below bb)
  replace HB := Lib.hid (below_then HB.out bb)
  clear bb
  clear RVb
  obtain ⟨RC0, RC1, RC2, RC3, RC4⟩ := cell_row5 RC.out
  try dsimp only at RC0 RC1 RC2 RC3 RC4
  have SH1 : Hid (∀ W : World, RdP W A3 2 d3 [p5, p7] → Calls Try.prog 32 #[cellV 1 zeroVal (.slice A3 2 d3)] W fun e w' => e = .returned (.agg #[.int .i64 1, .int .i64 7, .string ⟨#[]⟩]) ∧ Below W.heap.size W w') := by
    intro W hW
    have := show_any 1 zeroVal A3 2 d3 [p5, p7] W hW
    rw [show topL ([p5, p7].map P11.val) = numV 7 from al_top] at this
    exact this
  go_wp2_with fail
  refine (SH1.out _ RD.out).mono ?_
  rintro e w15 ⟨rfl, bb⟩
  replace RC := Lib.hid (row_below RC.out bb)
  replace RE := Lib.hid (row_below RE.out bb)
  replace RI := Lib.hid (row_below RI.out bb)
  replace RD := Lib.hid (RD.out.below bb)
  replace RF := Lib.hid (RF.out.below bb)
  replace RJ := Lib.hid (RJ.out.below bb)
  replace HB := Lib.hid (below_then HB.out bb)
  clear bb
  clear RC0 RC1 RC2 RC3 RC4
  go_wp2_with fail
  refine (lawNum_any 7 _).mono ?_
  rintro e w16 ⟨rfl, bb⟩
  replace RC := Lib.hid (row_below RC.out bb)
  replace RE := Lib.hid (row_below RE.out bb)
  replace RI := Lib.hid (row_below RI.out bb)
  replace RD := Lib.hid (RD.out.below bb)
  replace RF := Lib.hid (RF.out.below bb)
  replace RJ := Lib.hid (RJ.out.below bb)
  replace HB := Lib.hid (below_then HB.out bb)
  clear bb
  have SH0 : Hid (∀ W : World, Calls Try.prog 32 #[cellV 0 zeroVal (.slice none 0 0)] W fun e w' => e = .returned (.agg #[.int .i64 0, .int .i64 0, .string ⟨#[]⟩]) ∧ Below W.heap.size W w') := fun W => show_any 0 zeroVal none 0 0 [] W (RdG.nil_ _)
  go_wp2_with fail
  refine (SH0.out _).mono ?_
  rintro e w17 ⟨rfl, bb⟩
  replace RC := Lib.hid (row_below RC.out bb)
  replace RE := Lib.hid (row_below RE.out bb)
  replace RI := Lib.hid (row_below RI.out bb)
  replace RD := Lib.hid (RD.out.below bb)
  replace RF := Lib.hid (RF.out.below bb)
  replace RJ := Lib.hid (RJ.out.below bb)
  replace HB := Lib.hid (below_then HB.out bb)
  clear bb
  obtain ⟨RE0, RE1, RE2, RE3, RE4⟩ := cell_row5 RE.out
  try dsimp only at RE0 RE1 RE2 RE3 RE4
  have RT1 : Hid (∀ W : World, RdP W Ad 2 dd [p6, p7] → Calls Try.prog 17 #[cellV 1 zeroVal (.slice Ad 2 dd)] W fun e w' => e = .returned (.bool true) ∧ Below W.heap.size W w') := by
    intro W hW
    have := right7_any 1 zeroVal Ad 2 dd [p6, p7] W hW
    rw [al_right] at this
    exact this
  have RT2 : Hid (∀ W : World, Calls Try.prog 17 #[cellV 0 zeroVal (.slice none 0 0)] W fun e w' => e = .returned (.bool false) ∧ Below W.heap.size W w') := by
    intro W
    have := right7_any 0 zeroVal none 0 0 [] W (RdG.nil_ _)
    rw [al_wrong] at this
    exact this
  go_wp2_with fail
  refine (RT1.out _ RF.out).mono ?_
  rintro e w18 ⟨rfl, bb⟩
  replace RC := Lib.hid (row_below RC.out bb)
  replace RE := Lib.hid (row_below RE.out bb)
  replace RI := Lib.hid (row_below RI.out bb)
  replace RD := Lib.hid (RD.out.below bb)
  replace RF := Lib.hid (RF.out.below bb)
  replace RJ := Lib.hid (RJ.out.below bb)
  replace HB := Lib.hid (below_then HB.out bb)
  clear bb
  clear RE0 RE1 RE2 RE3 RE4
  go_wp2_with fail
  refine (RT2.out _).mono ?_
  rintro e w19 ⟨rfl, bb⟩
  replace RC := Lib.hid (row_below RC.out bb)
  replace RE := Lib.hid (row_below RE.out bb)
  replace RI := Lib.hid (row_below RI.out bb)
  replace RD := Lib.hid (RD.out.below bb)
  replace RF := Lib.hid (RF.out.below bb)
  replace RJ := Lib.hid (RJ.out.below bb)
  replace HB := Lib.hid (below_then HB.out bb)
  clear bb
  obtain ⟨RI0, RI1, RI2, RI3, RI4⟩ := cell_row5 RI.out
  try dsimp only at RI0 RI1 RI2 RI3 RI4
  obtain ⟨RE0, RE1, RE2, RE3, RE4⟩ := cell_row5 RE.out
  try dsimp only at RE0 RE1 RE2 RE3 RE4
  go_wp2_with fail
  refine (same7_is 1 zeroVal Aj Ad 2 dj dd [p6, p7] _ RJ.out RF.out).mono ?_
  rintro e w20 ⟨rfl, bb⟩
  replace RC := Lib.hid (row_below RC.out bb)
  replace RE := Lib.hid (row_below RE.out bb)
  replace RI := Lib.hid (row_below RI.out bb)
  replace RD := Lib.hid (RD.out.below bb)
  replace RF := Lib.hid (RF.out.below bb)
  replace RJ := Lib.hid (RJ.out.below bb)
  replace HB := Lib.hid (below_then HB.out bb)
  clear bb
  go_wp2_with fail
  go_ret
  exact ⟨rfl, HB.out⟩
end Go.Proofs.Ytieaobeidlhefaa
