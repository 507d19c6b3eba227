/- Layer 10: the chapter's example through the code: it answers true. -/
import Derived.Test.YtlgpijdemfccaaaMbTxtEx
import Derived.Test.YtlgpijdemfccaaaMbTxtType
import Derived.Test.YtlgpijdemfccaaaMbTxtSame
import Derived.Deep.RegionHeld3
import Derived.Deep.CutBlock
namespace Go.Proofs.Ytlgpijdemfccaaa
set_option maxRecDepth 100000
open Go.RowKit

theorem use_row2 {w w' : World} {g : Nat} {o : Obj} {C : Prop} (bb : Below w.heap.size w w') (h : w.heap[g]? = some o) (k : w'.heap[g]? = some o → g < w.heap.size → C) : C := k (row_below h bb) (Array.getElem?_eq_some_iff.1 h).1

theorem type_is (k : Int) (v : V3) (A : Option Addr) (n c : Nat) (l : List P11) (s : ByteArray) (who : S3) (d : D2) (i : Int) (w : World) (h : RdP w A n c l) (hn : n ≤ 4294967000) (hs : s.size ≤ 140737488355328)
    (he : mayT k v l s.size who ⟨d, i⟩ = 0) {m : Nat} (hm : n + s.size = m) {O : List P11} (hO : ordT (addL l (sbytes s) who ⟨d, i⟩) = O) :
    Calls Try.prog 20 #[cellV k v (.slice A n c), .string s, who.agg, d.agg, .int .i64 i] w fun e w' =>
      ∃ A' c', e = .returned (.tuple #[cellV k v (.slice A' m c'), .int .i64 0]) ∧ RdP w' A' m c' O ∧ Below w.heap.size w w' ∧ ∀ a, A' = some a → w.heap.size ≤ a.block := by
  subst hm hO
  refine (typeT_any k v A n c l s who d i w h hn hs).mono ?_
  rintro e w' ⟨hb, ⟨h1, _⟩ | ⟨_, A', c', h2, h3, h4⟩⟩
  · exact absurd he h1
  · exact ⟨A', c', h2, h3, hb, h4⟩
theorem erase_is (k : Int) (v : V3) (A : Option Addr) (n c : Nat) (l : List P11) (d : D2) (i : Int) (w : World) (h : RdP w A n c l) (hn : n ≤ 4294967000) {O : List P11} (hO : eraseL l ⟨d, i⟩ = O) :
    Calls Try.prog 18 #[cellV k v (.slice A n c), d.agg, .int .i64 i] w fun e w' => ∃ A' c', e = .returned (cellV k v (.slice A' n c')) ∧ RdP w' A' n c' O ∧ Below w.heap.size w w' ∧ ∀ a, A' = some a → w.heap.size ≤ a.block := by
  subst hO; exact eraseT_any k v A n c l d i w h hn
theorem show_is (k : Int) (v : V3) (A : Option Addr) (n c : Nat) (l : List P11) (w : World) (h : RdP w A n c l) (hn : n ≤ 4294967000) {vk vn : Int} {vs : ByteArray} (hV : showT k v l = ⟨vk, vn, vs⟩) :
    Calls Try.prog 10 #[cellV k v (.slice A n c)] w fun e w' => e = .returned (.agg #[.int .i64 vk, .int .i64 vn, .string vs]) ∧ Below w.heap.size w w' := by
  refine (showT_any k v A n c l w h hn).mono ?_
  rintro e w' ⟨rfl, hb⟩
  exact ⟨by rw [hV], hb⟩
theorem right10_is (k : Int) (v : V3) (A : Option Addr) (n c : Nat) (l : List P11) (w : World) (h : RdP w A n c l) (hn : n ≤ 4294967000) {r : Int} (hr : rightT10 k v l = r) :
    Calls Try.prog 8 #[cellV k v (.slice A n c)] w fun e w' => e = .returned (.int .i64 r) ∧ Below w.heap.size w w' := by
  subst hr; exact rightT_any k v A n c l w h hn

set_option maxHeartbeats 12800000 in
theorem alive10_any (w : World) : Calls Try.prog 6 #[] w fun e w' => e = .returned (.bool true) ∧ Below w.heap.size w w' := by
  have WH := Lib.hid (fun t d W => who_any t d W)
  have NE := Lib.hid (fun W => newT_any W)
  go_enter Try.func6, Try.ntmps6
  go_wp2_with fail
  refine (NE.out _).mono ?_
  rintro e w1 ⟨rfl, b1⟩
  have HB1 := Lib.hid b1
  clear b1
  go_wp2_with fail
  refine (WH.out _ _ _).mono ?_
  rintro e w2 ⟨rfl, hw2⟩
  have HB2 : Hid (Below w.heap.size w w2) := by rw [hw2]; exact below_new HB1.out _
  have TY := Lib.hid (type_is 4 zeroT none 0 0 [] exS1 ⟨1, 1, 1⟩ ⟨0, 0⟩ 0 w2 (RdG.nil_ _) (by decide) (by decide) ex_t1 (m := 2) rfl ex_l1)
  clear hw2 HB1
  go_wp2_with fail
  refine TY.out.mono ?_
  rintro e w3 ⟨A1, c1, rfl, hrd, b3, _⟩
  obtain ⟨w4, hw4⟩ : ∃ w4, w4 = w3.alloc (cellRow 4 zeroT (.slice A1 2 c1)) := ⟨_, rfl⟩
  obtain ⟨g1, hg1⟩ : ∃ g1, g1 = w3.heap.size := ⟨_, rfl⟩
  have R : Hid (w4.heap[g1]? = some (cellRow 4 zeroT (.slice A1 2 c1))) := by rw [hw4, hg1]; exact heap_alloc_new _ _
  have RD : Hid (RdP w4 A1 2 c1 [exA0, exA1]) := by rw [hw4]; exact hrd.alloc _
  have HB4 : Hid (Below w.heap.size w w4) := by rw [hw4]; exact below_new (below_then HB2.out b3) _
  clear TY hrd b3 HB2
  replace hw4 := Lib.hid hw4; replace hg1 := Lib.hid hg1
  go_upto_region 2 with fail
  rw [show w3.alloc (cellRow 4 zeroT (.slice A1 2 c1)) = w4 from hw4.out.symm, show w3.heap.size = g1 from hg1.out.symm]
  clear hw4 hg1
  have K : Hid (∀ W, Below w4.heap.size w4 W → W.cell? ⟨g1, 0, none⟩ = some (.int .i64 4) ∧ W.cell? ⟨g1, 1, none⟩ = some (.int .i64 0) ∧ W.cell? ⟨g1, 2, none⟩ = some (.int .i64 0) ∧ W.cell? ⟨g1, 3, none⟩ = some (.string ⟨#[]⟩) ∧ W.cell? ⟨g1, 4, none⟩ = some (.slice A1 2 c1)) := fun W hW => cell_row5 (row_below R.out hW)
  have TY : Hid (∀ W, Below w4.heap.size w4 W → Calls Try.prog 20 #[cellV 4 zeroT (.slice A1 2 c1), .string exS2, S3.agg ⟨2, 2, 1⟩, D2.agg ⟨1, 1⟩, .int .i64 0] W fun e w' => ∃ A' c', e = .returned (.tuple #[cellV 4 zeroT (.slice A' 3 c'), .int .i64 0]) ∧ RdP w' A' 3 c' [exA0, exX, exA1] ∧ Below W.heap.size W w' ∧ ∀ a, A' = some a → W.heap.size ≤ a.block) := fun W hW => type_is 4 zeroT A1 2 c1 [exA0, exA1] exS2 ⟨2, 2, 1⟩ ⟨1, 1⟩ 0 W (RD.out.below hW) (by decide) (by decide) ex_t2 rfl ex_l2
  go_cut [3, 4] from 15 to 21 (fun s3 s4 W => ∃ g A' c', s3 = .pointer (some ⟨g, 0, none⟩) ∧ s4 = .int .i64 0 ∧ Hid (W.heap[g]? = some (cellRow 4 zeroT (.slice A' 3 c'))) ∧ Hid (RdP W A' 3 c' [exA0, exX, exA1]) ∧ Hid (Below w4.heap.size w4 W))
  case first =>
    go_region_held3 (fun W => W.cell? ⟨g1, 0, none⟩ = some (.int .i64 4) ∧ W.cell? ⟨g1, 1, none⟩ = some (.int .i64 0) ∧ W.cell? ⟨g1, 2, none⟩ = some (.int .i64 0) ∧ W.cell? ⟨g1, 3, none⟩ = some (.string ⟨#[]⟩) ∧ W.cell? ⟨g1, 4, none⟩ = some (.slice A1 2 c1))
      (first
        | (refine K.out _ ?_; (repeat (first | with_reducible exact Below.refl _ _ | with_reducible refine below_new ?_ _ | with_reducible refine Below.drew ?_)); done)
        | (refine K.out _ ?_; (repeat (first | with_reducible exact bfr.out | with_reducible exact Below.refl _ _ | with_reducible refine below_new ?_ _ | with_reducible refine Below.drew ?_ | (refine Below.setCell ?_ (by show w4.heap.size ≤ _; first | exact Nat.le_refl _ | (dsimp only; omega)) _))); done))
      (first
        | (go_at_call 21; refine (WH.out _ _ _).mono ?_; rintro e wx ⟨rfl, rfl⟩)
        | (go_at_call 20
           refine (TY.out _ ?hb).mono ?_
           case hb =>
             repeat (first | with_reducible exact Below.refl _ _ | with_reducible refine below_new ?_ _ | with_reducible refine Below.drew ?_)
           rintro e wx ⟨A', c', rfl, hrd, bfx, hat⟩
           have bfr : Hid (Below w4.heap.size w4 wx) := below_then (by repeat (first | with_reducible exact Below.refl _ _ | with_reducible refine below_new ?_ _ | with_reducible refine Below.drew ?_)) bfx
           replace hrd := Lib.hid hrd; replace hat := Lib.hid hat; replace bfx := Lib.hid bfx
           first
              | (refine use_row2 (g := w4.heap.size) (o := cellRow 0 zeroT nilS) bfx.out ?hrow (fun rr hlt => ?_)
                 case hrow =>
                   repeat (first | assumption | (refine heap_at ?_; (try simp only [World.size_alloc]); first | done | omega) | refine heap_drew ?_ | (refine heap_past ?_ ?_; focus ((try simp only [World.size_alloc]); first | done | omega)))
                   done
                 obtain ⟨k0, k1, k2, k3, k4⟩ := cell_row5 rr
                 have kf := frozen_row rr
                 have hne : Hid (∀ a, A' = some a → a.block ≠ w4.heap.size) := fun a ha => by have := hat.out a ha; omega
                 replace rr := Lib.hid rr
                 clear hlt)
              | (refine use_row2 (g := w4.heap.size + 1) (o := cellRow 0 zeroT nilS) bfx.out ?hrow (fun rr hlt => ?_)
                 case hrow =>
                   repeat (first | assumption | (refine heap_at ?_; (try simp only [World.size_alloc]); first | done | omega) | refine heap_drew ?_ | (refine heap_past ?_ ?_; focus ((try simp only [World.size_alloc]); first | done | omega)))
                   done
                 obtain ⟨k0, k1, k2, k3, k4⟩ := cell_row5 rr
                 have kf := frozen_row rr
                 have hne : Hid (∀ a, A' = some a → a.block ≠ w4.heap.size + 1) := fun a ha => by have := hat.out a ha; omega
                 replace rr := Lib.hid rr
                 clear hlt)
              | skip))
    all_goals
      go_wp2_with fail
      go_meet
      refine ⟨_, A', c', rfl, rfl, Lib.hid ?_, Lib.hid ?_, Lib.hid ?_⟩
      · first | with_reducible exact heap_alloc_new _ _ | exact set5 rr.out
      · first | with_reducible exact hrd.out.alloc _ | exact rdp_cell (rdp_cell (rdp_cell (rdp_cell (rdp_cell hrd.out _ hne.out _ _) _ hne.out _ _) _ hne.out _ _) _ hne.out _ _) _ hne.out _ _
      · show Below w4.heap.size w4 _
        repeat (first | with_reducible exact bfr.out | with_reducible exact Below.refl _ _ | with_reducible refine below_new ?_ _ | with_reducible refine Below.drew ?_ | (refine Below.setCell ?_ (by show w4.heap.size ≤ _; first | exact Nat.le_refl _ | (dsimp only; omega)) _))
  case rest =>
  obtain ⟨g3, A3, c3, rfl, rfl, R2, RD2, BC⟩ := hcut
  obtain ⟨w5, rfl⟩ : ∃ z, z = wc := ⟨_, rfl⟩
  have HB5 := Lib.hid (below_then HB4.out BC.out)
  clear K TY R RD HB4 BC
  have R := R2; have RD := RD2
  clear R2 RD2
  have R3' := R; have RD3' := RD
  go_upto_region 3 with fail
  have K : Hid (∀ W, Below w5.heap.size w5 W → W.cell? ⟨g3, 0, none⟩ = some (.int .i64 4) ∧ W.cell? ⟨g3, 1, none⟩ = some (.int .i64 0) ∧ W.cell? ⟨g3, 2, none⟩ = some (.int .i64 0) ∧ W.cell? ⟨g3, 3, none⟩ = some (.string ⟨#[]⟩) ∧ W.cell? ⟨g3, 4, none⟩ = some (.slice A3 3 c3)) := fun W hW => cell_row5 (row_below R.out hW)
  have TY : Hid (∀ W, Below w5.heap.size w5 W → Calls Try.prog 20 #[cellV 4 zeroT (.slice A3 3 c3), .string exS3, S3.agg ⟨3, 3, 1⟩, D2.agg ⟨1, 1⟩, .int .i64 0] W fun e w' => ∃ A' c', e = .returned (.tuple #[cellV 4 zeroT (.slice A' 4 c'), .int .i64 0]) ∧ RdP w' A' 4 c' [exA0, exY, exX, exA1] ∧ Below W.heap.size W w' ∧ ∀ a, A' = some a → W.heap.size ≤ a.block) := fun W hW => type_is 4 zeroT A3 3 c3 [exA0, exX, exA1] exS3 ⟨3, 3, 1⟩ ⟨1, 1⟩ 0 W (RD.out.below hW) (by decide) (by decide) ex_t3 rfl ex_l3
  go_cut [5, 6] from 22 to 28 (fun s3 s4 W => ∃ g A' c', s3 = .pointer (some ⟨g, 0, none⟩) ∧ s4 = .int .i64 0 ∧ Hid (W.heap[g]? = some (cellRow 4 zeroT (.slice A' 4 c'))) ∧ Hid (RdP W A' 4 c' [exA0, exY, exX, exA1]) ∧ Hid (Below w5.heap.size w5 W))
  case first =>
    go_region_held3 (fun W => W.cell? ⟨g3, 0, none⟩ = some (.int .i64 4) ∧ W.cell? ⟨g3, 1, none⟩ = some (.int .i64 0) ∧ W.cell? ⟨g3, 2, none⟩ = some (.int .i64 0) ∧ W.cell? ⟨g3, 3, none⟩ = some (.string ⟨#[]⟩) ∧ W.cell? ⟨g3, 4, none⟩ = some (.slice A3 3 c3))
      (first
        | (refine K.out _ ?_; (repeat (first | with_reducible exact Below.refl _ _ | with_reducible refine below_new ?_ _ | with_reducible refine Below.drew ?_)); done)
        | (refine K.out _ ?_; (repeat (first | with_reducible exact bfr.out | with_reducible exact Below.refl _ _ | with_reducible refine below_new ?_ _ | with_reducible refine Below.drew ?_ | (refine Below.setCell ?_ (by show w5.heap.size ≤ _; first | exact Nat.le_refl _ | (dsimp only; omega)) _))); done))
      (first
        | (go_at_call 21; refine (WH.out _ _ _).mono ?_; rintro e wx ⟨rfl, rfl⟩)
        | (go_at_call 20
           refine (TY.out _ ?hb).mono ?_
           case hb =>
             repeat (first | with_reducible exact Below.refl _ _ | with_reducible refine below_new ?_ _ | with_reducible refine Below.drew ?_)
           rintro e wx ⟨A', c', rfl, hrd, bfx, hat⟩
           have bfr : Hid (Below w5.heap.size w5 wx) := below_then (by repeat (first | with_reducible exact Below.refl _ _ | with_reducible refine below_new ?_ _ | with_reducible refine Below.drew ?_)) bfx
           replace hrd := Lib.hid hrd; replace hat := Lib.hid hat; replace bfx := Lib.hid bfx
           first
              | (refine use_row2 (g := w5.heap.size) (o := cellRow 0 zeroT nilS) bfx.out ?hrow (fun rr hlt => ?_)
                 case hrow =>
                   repeat (first | assumption | (refine heap_at ?_; (try simp only [World.size_alloc]); first | done | omega) | refine heap_drew ?_ | (refine heap_past ?_ ?_; focus ((try simp only [World.size_alloc]); first | done | omega)))
                   done
                 obtain ⟨k0, k1, k2, k3, k4⟩ := cell_row5 rr
                 have kf := frozen_row rr
                 have hne : Hid (∀ a, A' = some a → a.block ≠ w5.heap.size) := fun a ha => by have := hat.out a ha; omega
                 replace rr := Lib.hid rr
                 clear hlt)
              | (refine use_row2 (g := w5.heap.size + 1) (o := cellRow 0 zeroT nilS) bfx.out ?hrow (fun rr hlt => ?_)
                 case hrow =>
                   repeat (first | assumption | (refine heap_at ?_; (try simp only [World.size_alloc]); first | done | omega) | refine heap_drew ?_ | (refine heap_past ?_ ?_; focus ((try simp only [World.size_alloc]); first | done | omega)))
                   done
                 obtain ⟨k0, k1, k2, k3, k4⟩ := cell_row5 rr
                 have kf := frozen_row rr
                 have hne : Hid (∀ a, A' = some a → a.block ≠ w5.heap.size + 1) := fun a ha => by have := hat.out a ha; omega
                 replace rr := Lib.hid rr
                 clear hlt)
              | skip))
    all_goals
      go_wp2_with fail
      go_meet
      refine ⟨_, A', c', rfl, rfl, Lib.hid ?_, Lib.hid ?_, Lib.hid ?_⟩
      · first | with_reducible exact heap_alloc_new _ _ | exact set5 rr.out
      · first | with_reducible exact hrd.out.alloc _ | exact rdp_cell (rdp_cell (rdp_cell (rdp_cell (rdp_cell hrd.out _ hne.out _ _) _ hne.out _ _) _ hne.out _ _) _ hne.out _ _) _ hne.out _ _
      · show Below w5.heap.size w5 _
        repeat (first | with_reducible exact bfr.out | with_reducible exact Below.refl _ _ | with_reducible refine below_new ?_ _ | with_reducible refine Below.drew ?_ | (refine Below.setCell ?_ (by show w5.heap.size ≤ _; first | exact Nat.le_refl _ | (dsimp only; omega)) _))
  case rest =>
  obtain ⟨g5, A5, c5, rfl, rfl, R2, RD2, BC⟩ := hcut
  obtain ⟨w6, rfl⟩ : ∃ z, z = wc := ⟨_, rfl⟩
  have HB6 := Lib.hid (below_then HB5.out BC.out)
  have R3 := Lib.hid (row_below R3'.out BC.out)
  have RD3 := Lib.hid (RD3'.out.below BC.out)
  clear K TY R RD HB5 BC R3' RD3'
  obtain ⟨c0, c1', c2, c3', c4⟩ := cell_row5 R2.out
  have ER := Lib.hid (erase_is 4 zeroT A5 4 c5 [exA0, exY, exX, exA1] ⟨2, 1⟩ 0 w6 RD2.out (by decide) (O := [exA0, exY, exX', exA1]) (by decide))
  go_wp2_with fail
  refine ER.out.mono ?_
  rintro e w7 ⟨A7, c7, rfl, hrd7, b7, _⟩
  obtain ⟨w8, hw8⟩ : ∃ w8, w8 = w7.alloc (cellRow 4 zeroT (.slice A7 4 c7)) := ⟨_, rfl⟩
  obtain ⟨g7, hg7⟩ : ∃ g7, g7 = w7.heap.size := ⟨_, rfl⟩
  have b8 : Below w6.heap.size w6 w8 := below_then b7 (by rw [hw8]; exact below_new (Below.refl _ _) _)
  have R78 : Hid (w8.heap[g7]? = some (cellRow 4 zeroT (.slice A7 4 c7))) := by rw [hw8, hg7]; exact heap_alloc_new _ _
  have RD78 : Hid (RdP w8 A7 4 c7 [exA0, exY, exX', exA1]) := by rw [hw8]; exact hrd7.alloc _
  have HB8 := Lib.hid (below_then HB6.out b8)
  have R38 := Lib.hid (row_below R3.out b8); have RD38 := Lib.hid (RD3.out.below b8)
  have R58 := Lib.hid (row_below R2.out b8); have RD58 := Lib.hid (RD2.out.below b8)
  clear ER hrd7 b7 b8 c0 c1' c2 c3' c4 HB6 R3 RD3 R2 RD2
  replace hw8 := Lib.hid hw8; replace hg7 := Lib.hid hg7
  go_upto_region 5 with fail
  rw [show w7.alloc (cellRow 4 zeroT (.slice A7 4 c7)) = w8 from hw8.out.symm, show w7.heap.size = g7 from hg7.out.symm]
  clear hw8 hg7
  have FLD2 : ∀ (k z : Int) (s : ByteArray) (W : World), (Instr.field 23 (.agg #[.int .i64 k, .int .i64 z, .string s]) 2).run Try.prog W = .ok (.string s) W := fun _ _ _ _ => by kernel_rfl
  have FLD0 : ∀ (k z : Int) (s : ByteArray) (W : World), (Instr.field 23 (.agg #[.int .i64 k, .int .i64 z, .string s]) 0).run Try.prog W = .ok (.int .i64 k) W := fun _ _ _ _ => by kernel_rfl
  obtain ⟨a0, a1, a2, a3, a4⟩ := cell_row5 R38.out
  have CC := Lib.hid (show_is 4 zeroT A3 3 c3 _ w8 RD38.out (by decide) ex_s2)
  go_wp2_with fail
  refine CC.out.mono ?_
  rintro e v1 ⟨rfl, bb⟩
  replace R38 := Lib.hid (row_below R38.out bb)
  replace R58 := Lib.hid (row_below R58.out bb)
  replace R78 := Lib.hid (row_below R78.out bb)
  replace RD38 := Lib.hid (RD38.out.below bb)
  replace RD58 := Lib.hid (RD58.out.below bb)
  replace RD78 := Lib.hid (RD78.out.below bb)
  replace HB8 := Lib.hid (below_then HB8.out bb)
  clear bb CC a0 a1 a2 a3 a4
  obtain ⟨a0, a1, a2, a3, a4⟩ := cell_row5 R58.out
  have CC := Lib.hid (show_is 4 zeroT A5 4 c5 _ v1 RD58.out (by decide) ex_s3)
  go_wp2_with fail
  refine CC.out.mono ?_
  rintro e v2 ⟨rfl, bb⟩
  replace R38 := Lib.hid (row_below R38.out bb)
  replace R58 := Lib.hid (row_below R58.out bb)
  replace R78 := Lib.hid (row_below R78.out bb)
  replace RD38 := Lib.hid (RD38.out.below bb)
  replace RD58 := Lib.hid (RD58.out.below bb)
  replace RD78 := Lib.hid (RD78.out.below bb)
  replace HB8 := Lib.hid (below_then HB8.out bb)
  clear bb CC a0 a1 a2 a3 a4
  obtain ⟨a0, a1, a2, a3, a4⟩ := cell_row5 R78.out
  have CC := Lib.hid (show_is 4 zeroT A7 4 c7 _ v2 RD78.out (by decide) ex_s4)
  go_wp2_with fail
  refine CC.out.mono ?_
  rintro e v3 ⟨rfl, bb⟩
  replace R38 := Lib.hid (row_below R38.out bb)
  replace R58 := Lib.hid (row_below R58.out bb)
  replace R78 := Lib.hid (row_below R78.out bb)
  replace RD38 := Lib.hid (RD38.out.below bb)
  replace RD58 := Lib.hid (RD58.out.below bb)
  replace RD78 := Lib.hid (RD78.out.below bb)
  replace HB8 := Lib.hid (below_then HB8.out bb)
  clear bb CC a0 a1 a2 a3 a4
  obtain ⟨a0, a1, a2, a3, a4⟩ := cell_row5 R78.out
  have CC := Lib.hid (right10_is 4 zeroT A7 4 c7 _ v3 RD78.out (by decide) ex_r4)
  go_wp2_with fail
  refine CC.out.mono ?_
  rintro e v4 ⟨rfl, bb⟩
  replace R38 := Lib.hid (row_below R38.out bb)
  replace R58 := Lib.hid (row_below R58.out bb)
  replace R78 := Lib.hid (row_below R78.out bb)
  replace RD38 := Lib.hid (RD38.out.below bb)
  replace RD58 := Lib.hid (RD58.out.below bb)
  replace RD78 := Lib.hid (RD78.out.below bb)
  replace HB8 := Lib.hid (below_then HB8.out bb)
  clear bb CC a0 a1 a2 a3 a4
  go_wp2_with fail
  refine (NE.out _).mono ?_
  rintro e u1 ⟨rfl, bb⟩
  replace HB8 := Lib.hid (below_then HB8.out bb)
  clear bb
  have CC := Lib.hid (show_is 4 zeroT none 0 0 [] u1 (RdG.nil_ _) (by decide) ex_s0)
  go_wp2_with fail
  refine CC.out.mono ?_
  rintro e u2 ⟨rfl, bb⟩
  replace HB8 := Lib.hid (below_then HB8.out bb)
  clear bb CC
  go_wp2_with fail
  go_ret
  exact ⟨rfl, HB8.out⟩
end Go.Proofs.Ytlgpijdemfccaaa

