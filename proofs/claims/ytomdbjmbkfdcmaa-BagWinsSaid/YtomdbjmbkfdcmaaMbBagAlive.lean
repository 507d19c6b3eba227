/- Layer 9: the chapter's examples. -/
import Derived.Test.YtomdbjmbkfdcmaaMbBagAl
import Derived.Test.YtomdbjmbkfdcmaaMbCodeSame
import Derived.Deep.CutBlock
import Derived.Deep.CutRange
namespace Go.Proofs.Ytomdbjmbkfdcmaa
set_option maxRecDepth 100000
open Go.RowKit Go.Sort Srt

theorem nested_row9 (w : World) (o o' : Obj) : ((w.alloc o).alloc o').heap[w.heap.size]? = some o := row_below (heap_alloc_new w o) (below_new (Below.refl _ _) o')
theorem second_row9 (w : World) (o o' : Obj) : ((w.alloc o).alloc o').heap[w.heap.size + 1]? = some o' := by
  have := heap_alloc_new (w.alloc o) o'
  rwa [World.size_alloc] at this

theorem ints9_is (A B : Option Addr) (n c d : Nat) (xs : List Int) (w : World) (ha : Rd w A n c (vals .i64 xs)) (hb : Rd w B n d (vals .i64 xs)) :
    Calls Try.prog 46 #[.slice A n c, .slice B n d] w fun e w' => e = .returned (.bool true) ∧ Below w.heap.size w w' :=
  (ints_is xs xs ha hb (r := true) (decide_eq_true rfl)).mono fun _ _ h => ⟨h.1, h.2.below _⟩

set_option maxHeartbeats 12800000 in
theorem alive9_any (w : World) : Calls Try.prog 19 #[] w fun e w' => e = .returned (.bool true) ∧ Below w.heap.size w w' := by
  have h1 := heap_alloc_new w (cellRow 3 zeroVal (.slice none 0 0))
  obtain ⟨w1, hw1⟩ : ∃ w1, w1 = w.alloc (cellRow 3 zeroVal (.slice none 0 0)) := ⟨_, rfl⟩
  have HB : Hid (Below w.heap.size w w1) := by rw [hw1]; exact below_new (Below.refl _ _) _
  rw [← hw1] at h1
  have RC := Lib.hid h1
  have HW1 := Lib.hid hw1
  clear h1 hw1
  obtain ⟨g, hg⟩ : ∃ g, g = w.heap.size := ⟨_, rfl⟩
  have HG := Lib.hid hg
  rw [← hg] at RC
  clear hg
  go_enter Try.func19, Try.ntmps19
  go_upto_region 2 with fail
  rw [← HG.out, show w.alloc (Obj.cells #[Value.int .i64 3, .int .i64 0, .int .i64 0, .string ⟨#[]⟩, .slice none 0 0] 26) = w1 from HW1.out.symm]
  clear HW1
  have RD : Hid (RdP w1 none 0 0 []) := RdG.nil_ _
  go_upto_region 2 with fail
  go_cut [0] from 4 to 8 (fun s wz => s = .bool false ∧ ∃ A d, Hid (wz.heap[g]? = some (cellRow 3 zeroVal (.slice A 1 d))) ∧ Hid (RdP wz A 1 d [b1]) ∧ Hid (Below w.heap.size w wz))
  case first =>
    obtain ⟨c0, c1, c2, c3, c4⟩ := cell_row5 RC.out
    dsimp only at c0 c1 c2 c3 c4
    go_wp2_with fail
    refine (putB_is 3 zeroVal none 0 0 [] 5 ⟨1, 1⟩ _ RD.out (by omega) [b1] 1 ab_p1 rfl).mono ?_
    rintro e wy ⟨A9, d9, rfl, hrd, bb⟩
    have hr := row_below RC.out bb
    clear c0 c1 c2 c3 c4
    obtain ⟨y0, y1, y2, y3, y4⟩ := cell_row5 hr
    have f0 := frozen_row hr
    dsimp only at y0 y1 y2 y3 y4
    have HR := Lib.hid hr
    have HRD := Lib.hid hrd
    have HB9 := Lib.hid (below_then HB.out bb)
    clear hr hrd
    have hgw : w.heap.size ≤ g := by rw [HG.out]; exact Nat.le_refl _
    have T1 := Lib.hid (set5 (x := .int .i64 3) (y := .int .i64 0) (z := .int .i64 0) (u := .string ⟨#[]⟩) (v := .slice A9 1 d9) HR.out)
    have T2 := Lib.hid (rdp_set5 HRD.out HR.out (.int .i64 3) (.int .i64 0) (.int .i64 0) (.string ⟨#[]⟩) (.slice A9 1 d9))
    have T3 := Lib.hid (below_set5 (x := .int .i64 3) (y := .int .i64 0) (z := .int .i64 0) (a := .string ⟨#[]⟩) (b := .slice A9 1 d9) HB9.out hgw)
    go_wp2_with fail
    go_meet
    exact ⟨rfl, _, _, T1, T2, T3⟩
  case rest =>
  obtain ⟨rfl, A2, d2, hRC, hRD, hHB⟩ := hcut
  clear RC RD HB
  have RC := hRC; have RD := hRD; have HB := hHB
  clear hRC hRD hHB
  generalize wc = w2 at RC RD HB ⊢
  go_upto_region 3 with fail
  go_cut [0] from 8 to 12 (fun s wz => s = .bool false ∧ ∃ A d, Hid (wz.heap[g]? = some (cellRow 3 zeroVal (.slice A 2 d))) ∧ Hid (RdP wz A 2 d [b1, b2]) ∧ Hid (Below w.heap.size w wz))
  case first =>
    obtain ⟨c0, c1, c2, c3, c4⟩ := cell_row5 RC.out
    dsimp only at c0 c1 c2 c3 c4
    go_wp2_with fail
    refine (putB_is 3 zeroVal A2 1 d2 [b1] 5 ⟨2, 1⟩ _ RD.out (by omega) [b1, b2] 2 ab_p2 rfl).mono ?_
    rintro e wy ⟨A9, d9, rfl, hrd, bb⟩
    have hr := row_below RC.out bb
    clear c0 c1 c2 c3 c4
    obtain ⟨y0, y1, y2, y3, y4⟩ := cell_row5 hr
    have f0 := frozen_row hr
    dsimp only at y0 y1 y2 y3 y4
    have HR := Lib.hid hr
    have HRD := Lib.hid hrd
    have HB9 := Lib.hid (below_then HB.out bb)
    clear hr hrd
    have hgw : w.heap.size ≤ g := by rw [HG.out]; exact Nat.le_refl _
    have T1 := Lib.hid (set5 (x := .int .i64 3) (y := .int .i64 0) (z := .int .i64 0) (u := .string ⟨#[]⟩) (v := .slice A9 2 d9) HR.out)
    have T2 := Lib.hid (rdp_set5 HRD.out HR.out (.int .i64 3) (.int .i64 0) (.int .i64 0) (.string ⟨#[]⟩) (.slice A9 2 d9))
    have T3 := Lib.hid (below_set5 (x := .int .i64 3) (y := .int .i64 0) (z := .int .i64 0) (a := .string ⟨#[]⟩) (b := .slice A9 2 d9) HB9.out hgw)
    go_wp2_with fail
    go_meet
    exact ⟨rfl, _, _, T1, T2, T3⟩
  case rest =>
  obtain ⟨rfl, A3, d3, hRC, hRD, hHB⟩ := hcut
  clear RC RD HB
  have RC := hRC; have RD := hRD; have HB := hHB
  clear hRC hRD hHB
  generalize wc = w3 at RC RD HB ⊢
  go_upto_region 4 with fail
  go_cut [0] from 12 to 16 (fun s wz => s = .bool false ∧ ∃ A d, Hid (wz.heap[g]? = some (cellRow 3 zeroVal (.slice A 3 d))) ∧ Hid (RdP wz A 3 d [b3, b1, b2]) ∧ Hid (Below w.heap.size w wz))
  case first =>
    obtain ⟨c0, c1, c2, c3, c4⟩ := cell_row5 RC.out
    dsimp only at c0 c1 c2 c3 c4
    go_wp2_with fail
    refine (putB_is 3 zeroVal A3 2 d3 [b1, b2] (-3) ⟨2, 1⟩ _ RD.out (by omega) [b3, b1, b2] 3 ab_p3 rfl).mono ?_
    rintro e wy ⟨A9, d9, rfl, hrd, bb⟩
    have hr := row_below RC.out bb
    clear c0 c1 c2 c3 c4
    obtain ⟨y0, y1, y2, y3, y4⟩ := cell_row5 hr
    have f0 := frozen_row hr
    dsimp only at y0 y1 y2 y3 y4
    have HR := Lib.hid hr
    have HRD := Lib.hid hrd
    have HB9 := Lib.hid (below_then HB.out bb)
    clear hr hrd
    have hgw : w.heap.size ≤ g := by rw [HG.out]; exact Nat.le_refl _
    have T1 := Lib.hid (set5 (x := .int .i64 3) (y := .int .i64 0) (z := .int .i64 0) (u := .string ⟨#[]⟩) (v := .slice A9 3 d9) HR.out)
    have T2 := Lib.hid (rdp_set5 HRD.out HR.out (.int .i64 3) (.int .i64 0) (.int .i64 0) (.string ⟨#[]⟩) (.slice A9 3 d9))
    have T3 := Lib.hid (below_set5 (x := .int .i64 3) (y := .int .i64 0) (z := .int .i64 0) (a := .string ⟨#[]⟩) (b := .slice A9 3 d9) HB9.out hgw)
    go_wp2_with fail
    go_meet
    exact ⟨rfl, _, _, T1, T2, T3⟩
  case rest =>
  obtain ⟨rfl, A4, d4, hRC, hRD, hHB⟩ := hcut
  clear RC RD HB
  have RC := hRC; have RD := hRD; have HB := hHB
  clear hRC hRD hHB
  generalize wc = w4 at RC RD HB ⊢
  go_upto_region 5 with fail
  go_cut [2] from 16 to 22 (fun s wz => ∃ gd A d, s = .pointer (some ⟨gd, 0, none⟩) ∧ Hid (wz.heap[gd]? = some (cellRow 3 zeroVal (.slice A 2 d))) ∧ Hid (RdP wz A 2 d [b3, b2]) ∧ Hid (wz.heap[g]? = some (cellRow 3 zeroVal (.slice A4 3 d4))) ∧ Hid (RdP wz A4 3 d4 [b3, b1, b2]) ∧ Hid (Below w.heap.size w wz))
  case first =>
    obtain ⟨c0, c1, c2, c3, c4⟩ := cell_row5 RC.out
    dsimp only at c0 c1 c2 c3 c4
    go_wp2_with fail
    refine (takeB_is 3 zeroVal A4 3 d4 [b3, b1, b2] 5 ⟨3, 1⟩ (some ⟨w4.heap.size, 0, none⟩) 1 1 [1] _ (RD.out.below (below_new (Below.refl _ _) _)) (by omega) (rowI_rd (z := [1]) (heap_alloc_new _ _) rfl (by omega)) [b3, b2] 2 ab_t1 rfl).mono ?_
    rintro e wy ⟨A9, d9, rfl, hrd, bb⟩
    replace bb := below_then (below_new (Below.refl _ _) _) bb
    clear c0 c1 c2 c3 c4
    have T1 := Lib.hid (heap_alloc_new wy (cellRow 3 zeroVal (.slice A9 2 d9)))
    have T2 := Lib.hid (RdG.alloc hrd (cellRow 3 zeroVal (.slice A9 2 d9)))
    have K0 := Lib.hid (row_below RC.out (below_new bb (cellRow 3 zeroVal (.slice A9 2 d9))))
    have L0 := Lib.hid (RD.out.below (below_new bb (cellRow 3 zeroVal (.slice A9 2 d9))))
    have T5 := Lib.hid (below_new (below_then HB.out bb) (cellRow 3 zeroVal (.slice A9 2 d9)))
    clear hrd bb
    go_wp2_with fail
    go_meet
    exact ⟨_, _, _, rfl, T1, T2, K0, L0, T5⟩
  case rest =>
  obtain ⟨g5, A5, d5, rfl, hR, hRd, hK0, hL0, hHB⟩ := hcut
  clear RC RD HB
  have R5 := hR; have D5 := hRd; have HB := hHB
  have RC := hK0; have RD := hL0
  clear hR hRd hHB hK0 hL0
  generalize wc = w5 at R5 D5 HB RC RD ⊢
  go_upto_region 6 with fail
  go_cut [3] from 22 to 28 (fun s wz => ∃ gd A d, s = .pointer (some ⟨gd, 0, none⟩) ∧ Hid (wz.heap[gd]? = some (cellRow 3 zeroVal (.slice A 1 d))) ∧ Hid (RdP wz A 1 d [b3]) ∧ Hid (wz.heap[g]? = some (cellRow 3 zeroVal (.slice A4 3 d4))) ∧ Hid (RdP wz A4 3 d4 [b3, b1, b2]) ∧ Hid (wz.heap[g5]? = some (cellRow 3 zeroVal (.slice A5 2 d5))) ∧ Hid (RdP wz A5 2 d5 [b3, b2]) ∧ Hid (Below w.heap.size w wz))
  case first =>
    obtain ⟨c0, c1, c2, c3, c4⟩ := cell_row5 R5.out
    dsimp only at c0 c1 c2 c3 c4
    go_wp2_with fail
    refine (takeB_is 3 zeroVal A5 2 d5 [b3, b2] 5 ⟨3, 2⟩ (some ⟨w5.heap.size, 0, none⟩) 2 2 [1, 1] _ (D5.out.below (below_new (Below.refl _ _) _)) (by omega) (rowI_rd (z := [1, 1]) (heap_alloc_new _ _) rfl (by omega)) [b3] 1 ab_t2 rfl).mono ?_
    rintro e wy ⟨A9, d9, rfl, hrd, bb⟩
    replace bb := below_then (below_new (Below.refl _ _) _) bb
    clear c0 c1 c2 c3 c4
    have T1 := Lib.hid (heap_alloc_new wy (cellRow 3 zeroVal (.slice A9 1 d9)))
    have T2 := Lib.hid (RdG.alloc hrd (cellRow 3 zeroVal (.slice A9 1 d9)))
    have K0 := Lib.hid (row_below RC.out (below_new bb (cellRow 3 zeroVal (.slice A9 1 d9))))
    have L0 := Lib.hid (RD.out.below (below_new bb (cellRow 3 zeroVal (.slice A9 1 d9))))
    have K1 := Lib.hid (row_below R5.out (below_new bb (cellRow 3 zeroVal (.slice A9 1 d9))))
    have L1 := Lib.hid (D5.out.below (below_new bb (cellRow 3 zeroVal (.slice A9 1 d9))))
    have T5 := Lib.hid (below_new (below_then HB.out bb) (cellRow 3 zeroVal (.slice A9 1 d9)))
    clear hrd bb
    go_wp2_with fail
    go_meet
    exact ⟨_, _, _, rfl, T1, T2, K0, L0, K1, L1, T5⟩
  case rest =>
  obtain ⟨g6, A6, d6, rfl, hR, hRd, hK0, hL0, hK1, hL1, hHB⟩ := hcut
  clear RC RD R5 D5 HB
  have R6 := hR; have D6 := hRd; have HB := hHB
  have RC := hK0; have RD := hL0
  have R5 := hK1; have D5 := hL1
  clear hR hRd hHB hK0 hL0 hK1 hL1
  generalize wc = w6 at R6 D6 HB RC RD R5 D5 ⊢
  have EQ1 := run_equalIn_val 1 1 1 1 ⟨#[]⟩ ⟨#[]⟩
  rw [show sameZ 1 1 ⟨#[]⟩ 1 1 ⟨#[]⟩ = true by simp [sameZ]] at EQ1
  go_upto_region 7 with fail
  obtain ⟨RC0, RC1, RC2, RC3, RC4⟩ := cell_row5 RC.out
  try dsimp only at RC0 RC1 RC2 RC3 RC4
  obtain ⟨R50, R51, R52, R53, R54⟩ := cell_row5 R5.out
  try dsimp only at R50 R51 R52 R53 R54
  obtain ⟨R60, R61, R62, R63, R64⟩ := cell_row5 R6.out
  try dsimp only at R60 R61 R62 R63 R64
  have hS0 : Below w6.heap.size w6 w6 ∧ w6.cell? ⟨g, 0, none⟩ = some (.int .i64 3) ∧ w6.cell? ⟨g, 1, none⟩ = some (.int .i64 0) ∧ w6.cell? ⟨g, 2, none⟩ = some (.int .i64 0) ∧ w6.cell? ⟨g, 3, none⟩ = some (.string ⟨#[]⟩) ∧ w6.cell? ⟨g, 4, none⟩ = some (.slice A4 3 d4) ∧ w6.cell? ⟨g5, 0, none⟩ = some (.int .i64 3) ∧ w6.cell? ⟨g5, 1, none⟩ = some (.int .i64 0) ∧ w6.cell? ⟨g5, 2, none⟩ = some (.int .i64 0) ∧ w6.cell? ⟨g5, 3, none⟩ = some (.string ⟨#[]⟩) ∧ w6.cell? ⟨g5, 4, none⟩ = some (.slice A5 2 d5) ∧ w6.cell? ⟨g6, 0, none⟩ = some (.int .i64 3) ∧ w6.cell? ⟨g6, 1, none⟩ = some (.int .i64 0) ∧ w6.cell? ⟨g6, 2, none⟩ = some (.int .i64 0) ∧ w6.cell? ⟨g6, 3, none⟩ = some (.string ⟨#[]⟩) ∧ w6.cell? ⟨g6, 4, none⟩ = some (.slice A6 1 d6) := ⟨Below.refl _ _, RC0, RC1, RC2, RC3, RC4, R50, R51, R52, R53, R54, R60, R61, R62, R63, R64⟩
  have K : Hid (∀ W W' : World, (Below w6.heap.size w6 W ∧ W.cell? ⟨g, 0, none⟩ = some (.int .i64 3) ∧ W.cell? ⟨g, 1, none⟩ = some (.int .i64 0) ∧ W.cell? ⟨g, 2, none⟩ = some (.int .i64 0) ∧ W.cell? ⟨g, 3, none⟩ = some (.string ⟨#[]⟩) ∧ W.cell? ⟨g, 4, none⟩ = some (.slice A4 3 d4) ∧ W.cell? ⟨g5, 0, none⟩ = some (.int .i64 3) ∧ W.cell? ⟨g5, 1, none⟩ = some (.int .i64 0) ∧ W.cell? ⟨g5, 2, none⟩ = some (.int .i64 0) ∧ W.cell? ⟨g5, 3, none⟩ = some (.string ⟨#[]⟩) ∧ W.cell? ⟨g5, 4, none⟩ = some (.slice A5 2 d5) ∧ W.cell? ⟨g6, 0, none⟩ = some (.int .i64 3) ∧ W.cell? ⟨g6, 1, none⟩ = some (.int .i64 0) ∧ W.cell? ⟨g6, 2, none⟩ = some (.int .i64 0) ∧ W.cell? ⟨g6, 3, none⟩ = some (.string ⟨#[]⟩) ∧ W.cell? ⟨g6, 4, none⟩ = some (.slice A6 1 d6)) → Below W.heap.size W W' → (Below w6.heap.size w6 W' ∧ W'.cell? ⟨g, 0, none⟩ = some (.int .i64 3) ∧ W'.cell? ⟨g, 1, none⟩ = some (.int .i64 0) ∧ W'.cell? ⟨g, 2, none⟩ = some (.int .i64 0) ∧ W'.cell? ⟨g, 3, none⟩ = some (.string ⟨#[]⟩) ∧ W'.cell? ⟨g, 4, none⟩ = some (.slice A4 3 d4) ∧ W'.cell? ⟨g5, 0, none⟩ = some (.int .i64 3) ∧ W'.cell? ⟨g5, 1, none⟩ = some (.int .i64 0) ∧ W'.cell? ⟨g5, 2, none⟩ = some (.int .i64 0) ∧ W'.cell? ⟨g5, 3, none⟩ = some (.string ⟨#[]⟩) ∧ W'.cell? ⟨g5, 4, none⟩ = some (.slice A5 2 d5) ∧ W'.cell? ⟨g6, 0, none⟩ = some (.int .i64 3) ∧ W'.cell? ⟨g6, 1, none⟩ = some (.int .i64 0) ∧ W'.cell? ⟨g6, 2, none⟩ = some (.int .i64 0) ∧ W'.cell? ⟨g6, 3, none⟩ = some (.string ⟨#[]⟩) ∧ W'.cell? ⟨g6, 4, none⟩ = some (.slice A6 1 d6))) := by
    rintro W W' ⟨kk, k0, k1, k2, k3, k4, k5, k6, k7, k8, k9, k10, k11, k12, k13, k14⟩ hb
    have hc : ∀ (p : Addr) (y : Value), W.cell? p = some y → W'.cell? p = some y := fun p y h2 => (hb.cell (World.block_lt_of_cell? _ _ h2)).trans h2
    exact ⟨below_then kk hb, hc _ _ k0, hc _ _ k1, hc _ _ k2, hc _ _ k3, hc _ _ k4, hc _ _ k5, hc _ _ k6, hc _ _ k7, hc _ _ k8, hc _ _ k9, hc _ _ k10, hc _ _ k11, hc _ _ k12, hc _ _ k13, hc _ _ k14⟩
  go_region_held3 (fun W => Below w6.heap.size w6 W ∧ W.cell? ⟨g, 0, none⟩ = some (.int .i64 3) ∧ W.cell? ⟨g, 1, none⟩ = some (.int .i64 0) ∧ W.cell? ⟨g, 2, none⟩ = some (.int .i64 0) ∧ W.cell? ⟨g, 3, none⟩ = some (.string ⟨#[]⟩) ∧ W.cell? ⟨g, 4, none⟩ = some (.slice A4 3 d4) ∧ W.cell? ⟨g5, 0, none⟩ = some (.int .i64 3) ∧ W.cell? ⟨g5, 1, none⟩ = some (.int .i64 0) ∧ W.cell? ⟨g5, 2, none⟩ = some (.int .i64 0) ∧ W.cell? ⟨g5, 3, none⟩ = some (.string ⟨#[]⟩) ∧ W.cell? ⟨g5, 4, none⟩ = some (.slice A5 2 d5) ∧ W.cell? ⟨g6, 0, none⟩ = some (.int .i64 3) ∧ W.cell? ⟨g6, 1, none⟩ = some (.int .i64 0) ∧ W.cell? ⟨g6, 2, none⟩ = some (.int .i64 0) ∧ W.cell? ⟨g6, 3, none⟩ = some (.string ⟨#[]⟩) ∧ W.cell? ⟨g6, 4, none⟩ = some (.slice A6 1 d6))
    (first
      | exact K.out _ _ hS0 ((Below.refl _ _).drew)
      | exact K.out _ _ (by assumption) bb
      | exact K.out _ _ (by assumption) ((Below.refl _ _).alloc (Nat.le_refl _) _)
      | exact K.out _ _ hS0 (((Below.refl _ _).alloc (Nat.le_refl _) _).drew)
      | assumption)
    (first
      | (go_at_call 47; refine (numbersB_is 3 zeroVal A4 3 d4 [b3, b1, b2] _ (RD.out.below (by first | exact Below.refl _ _ | exact (Below.refl _ _).drew | (go_split_ands; assumption))) (by omega) [-3, 5] 2 ab_n3 rfl).mono ?_; rintro e wx ⟨An, dn, rfl, hv, bb⟩; (try have hs9 := row_below (o := .cells #[.int .i64 (-3), .int .i64 5] 3) (by exact heap_alloc_new _ _) bb))
      | (go_at_call 46; refine (ints9_is An _ 2 dn 2 [-3, 5] _ (by first | exact hv | exact hv.below (below_new (Below.refl _ _) _) | exact hv.below (below_new (below_new (Below.refl _ _) _) _)) (by first | exact rowI_rd (z := [-3, 5]) (heap_alloc_new _ _) rfl (by omega) | exact rowI_rd (z := [-3, 5]) (nested_row9 _ _ _) rfl (by omega) | exact rowI_rd (z := [-3, 5]) (second_row9 _ _ _) rfl (by omega) | exact rowI_rd (z := [-3, 5]) hs9 rfl (by omega))).mono ?_; rintro e wx ⟨rfl, bb⟩)
      | (go_at_call 23; have dq := D5done; refine (hasB_is 3 zeroVal A6 1 d6 [b3] 5 _ (D6.out.below (by first | exact Below.refl _ _ | exact (Below.refl _ _).drew | (go_split_ands; assumption))) false ab_h0).mono ?_; rintro e wx ⟨rfl, bb⟩)
      | (go_at_call 23; refine (hasB_is 3 zeroVal A5 2 d5 [b3, b2] 5 _ (D5.out.below (by first | exact Below.refl _ _ | exact (Below.refl _ _).drew | (go_split_ands; assumption))) true ab_h1).mono ?_; rintro e wx ⟨rfl, bb⟩; have D5done := trivial)
      | (go_at_call 30; refine (showB_is 3 zeroVal A6 1 d6 [b3] _ (D6.out.below (by first | exact Below.refl _ _ | exact (Below.refl _ _).drew | (go_split_ands; assumption))) (by omega) 1 (by rw [ab_n1]; rfl)).mono ?_; rintro e wx ⟨rfl, bb⟩)
      | (go_at_call 18; have dq := Rdone; refine (rightS_is 0 zeroVal none 0 0 [] _ (RdG.nil_ _) false ab_wrong).mono ?_; rintro e wx ⟨rfl, bb⟩)
      | (go_at_call 18; refine (rightS_is 3 zeroVal A4 3 d4 [b3, b1, b2] _ (RD.out.below (by first | exact Below.refl _ _ | exact (Below.refl _ _).drew | (go_split_ands; assumption))) true ab_right).mono ?_; rintro e wx ⟨rfl, bb⟩; have Rdone := trivial)
      | (go_at_call 20; refine (bjoin_is 3 zeroVal A4 3 d4 [b3, b1, b2] 3 zeroVal A6 1 d6 [b3] _ 2 2 [1, 1] _ 3 3 [1, 1, 2] _ (RD.out.below (by first | exact Below.refl _ _ | exact (Below.refl _ _).drew | (go_split_ands; assumption))) (D6.out.below (by first | exact Below.refl _ _ | exact (Below.refl _ _).drew | (go_split_ands; assumption))) (by omega) (by first | exact rowI_rd (z := [1, 1]) (heap_alloc_new _ _) rfl (by omega) | exact rowI_rd (z := [1, 1]) (nested_row9 _ _ _) rfl (by omega) | exact rowI_rd (z := [1, 1]) (second_row9 _ _ _) rfl (by omega) | exact rowI_rd (z := [1, 1]) hs9 rfl (by omega)) (by first | exact rowI_rd (z := [1, 1, 2]) (heap_alloc_new _ _) rfl (by omega) | exact rowI_rd (z := [1, 1, 2]) (nested_row9 _ _ _) rfl (by omega) | exact rowI_rd (z := [1, 1, 2]) (second_row9 _ _ _) rfl (by omega) | exact rowI_rd (z := [1, 1, 2]) hs9 rfl (by omega)) [b3] 1 ab_j rfl).mono ?_; rintro e wx ⟨Aj, dj, rfl, hj, bb⟩)
      | (go_at_call 14; refine (same7_is 3 zeroVal Aj A6 1 dj d6 [b3] _ hj (D6.out.below (by first | exact Below.refl _ _ | exact (Below.refl _ _).drew | (go_split_ands; assumption)))).mono ?_; rintro e wx ⟨rfl, bb⟩))
  all_goals
    have hSz : Below w6.heap.size w6 wx ∧ wx.cell? ⟨g, 0, none⟩ = some (.int .i64 3) ∧ wx.cell? ⟨g, 1, none⟩ = some (.int .i64 0) ∧ wx.cell? ⟨g, 2, none⟩ = some (.int .i64 0) ∧ wx.cell? ⟨g, 3, none⟩ = some (.string ⟨#[]⟩) ∧ wx.cell? ⟨g, 4, none⟩ = some (.slice A4 3 d4) ∧ wx.cell? ⟨g5, 0, none⟩ = some (.int .i64 3) ∧ wx.cell? ⟨g5, 1, none⟩ = some (.int .i64 0) ∧ wx.cell? ⟨g5, 2, none⟩ = some (.int .i64 0) ∧ wx.cell? ⟨g5, 3, none⟩ = some (.string ⟨#[]⟩) ∧ wx.cell? ⟨g5, 4, none⟩ = some (.slice A5 2 d5) ∧ wx.cell? ⟨g6, 0, none⟩ = some (.int .i64 3) ∧ wx.cell? ⟨g6, 1, none⟩ = some (.int .i64 0) ∧ wx.cell? ⟨g6, 2, none⟩ = some (.int .i64 0) ∧ wx.cell? ⟨g6, 3, none⟩ = some (.string ⟨#[]⟩) ∧ wx.cell? ⟨g6, 4, none⟩ = some (.slice A6 1 d6) := by assumption
    have HZ := below_then HB.out hSz.1
    go_wp2_with fail
    go_ret
    exact ⟨rfl, HZ⟩
end Go.Proofs.Ytomdbjmbkfdcmaa

