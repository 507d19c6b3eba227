/- Several texts laid together: BagRight, BagSeq, BagNums. -/
import Derived.Test.YtfljhnalmiibeaaGreatMbBagCmp
import Derived.Test.YtfljhnalmiibeaaGreatMbBasPut2
import Derived.Deep.RegionHeld3
import Derived.RangeFuncNested
import Derived.RangeFuncBound
import Derived.RangeFuncCalls
import Derived.RangeFuncLeaves
import Derived.Shelf.Abstract
import Derived.Shelf.RegionOpen
import Derived.OwnWalkIn
import Derived.TacticsInMore
import Derived.LoopNIn
import Derived.LoopIn
import Derived.Sort.CutIn
import Derived.RangeFuncBox
import Derived.Maps.AppendAt
import Derived.Test.YtfljhnalmiibeaaGreatMbBasMath
import Derived.Test.YtfljhnalmiibeaaGreatMbMulCmp
import Derived.Laws.NewBlocks
import Derived.Test.YtfljhnalmiibeaaGreatMbValMath
import Derived.Shelf.SlSortCmp.QuietGrown
import Derived.Shelf.RegionOpenPlain
import Derived.BigRegion
import Derived.IntWalk
import Derived.Deep.DeepCutAuto
import Derived.Deep.CutBlock
import Derived.Lib.AppendZerosOnto
import Derived.RangeFuncFrom
namespace Go.Proofs.YtfljhnalmiibeaaGreat
set_option maxRecDepth 100000
open Go.RowKit Go.Sort Srt
theorem rightS_no {k : Int} {v : V3} {l : List P11} (h : ¬ RightB l) : false = rightS k v l := by simp [rightS, h]
set_option maxHeartbeats 6400000 in
theorem rightS_any (ka : Int) (va : V3) (A : Option Addr) (n c : Nat) (l : List P11) (w : World) (h : RdP w A n c l) :
    Calls Tryz.prog 130 #[cellV ka va (.slice A n c)] w fun e w' => e = .returned (.bool (rightS ka va l)) ∧ Below w.heap.size w w' := by
  obtain ⟨w1, hw1⟩ : ∃ w1, w1 = w.alloc (cellRow ka va (.slice A n c)) := ⟨_, rfl⟩
  have hb1 : Below w.heap.size w w1 := by rw [hw1]; exact below_new (Below.refl _ _) _
  have h4 : w1.heap[w.heap.size]? = some (cellRow ka va (.slice A n c)) := by rw [hw1]; exact heap_alloc_new _ _
  have hs1 : w.heap.size < w1.heap.size := by rw [hw1]; simp
  have HRD := Lib.hid (h.below hb1)
  have HL := Lib.hid h.len
  have hle := h.le
  have HB := Lib.hid hb1
  have H4 := Lib.hid h4
  have HS1 := Lib.hid hs1
  obtain ⟨F, hF⟩ : ∃ F, Hid (F = rightS ka va l) := ⟨_, rfl⟩
  rw [← hF.out]
  have EQ : ∀ W, (Op.equalIn 10000 68 (.agg #[.int .i64 va.k, .int .i64 va.n, .string va.s]) (.agg #[.int .i64 0, .int .i64 0, .string ⟨#[]⟩])).run Tryz.prog W = .ok (decide (va = zeroV)) W := fun W => run_equalIn_valF 9998 va zeroV W
  obtain ⟨q0, q1, q2, q3, q4⟩ := cell_row5 h4
  clear h hb1 h4 hs1
  by_cases hk : ka = 3
  · by_cases hv : va = zeroV
    · have HK : Hid (RightB l → true = F) := fun h => by rw [hF.out]; simp [rightS, hk, hv, h]
      have HN : Hid (¬ RightB l → false = F) := fun h => by rw [hF.out]; exact rightS_no h
      have hd : decide (va = zeroV) = true := decide_eq_true hv
      rw [hd] at EQ
      clear hd hv
      subst hk
      go_enter Tryz.func130, Tryz.ntmps130
      go_upto_region 1 with fail
      rw [← hw1]
      clear hw1
      go_wp2_with fail
      clear EQ q0 q1 q2 q3 q4
      go_loopw [17] (fun i wr => ∃ k : Nat, k ≤ n ∧ i = .int .i64 k ∧ Hid (RightB (l.take k)) ∧ Hid (Below w1.heap.size w1 wr)) (fun i _ => n - (intOf i).toNat)
      case atStart => exact ⟨0, Nat.zero_le _, rfl, by show RightB _; rw [List.take_zero]; exact ⟨by simp, List.Pairwise.nil⟩, Below.refl _ _⟩
      case round =>
        obtain ⟨k, hk, rfl, hR, hbel⟩ := hrel
        by_cases hlt : k < n
        · obtain ⟨b, o, x, rfl, hb, hx, hld⟩ := HRD.out.part hlt
          obtain ⟨c0, c1, c2, c3, c4, c5, c6, c7, c8, c9, c10⟩ := hld wr hbel.out
          obtain ⟨w2, hw2⟩ : ∃ w2, w2 = wr.alloc (partCells x) := ⟨_, rfl⟩
          have HW2 := Lib.hid hw2
          have B2 : Below wr.heap.size wr w2 := by rw [hw2]; exact below_new (Below.refl _ _) _
          have BB2 := Lib.hid (below_then hbel.out B2)
          have hnew : w2.heap[wr.heap.size]? = some (partCells x) := by rw [hw2]; exact heap_alloc_new _ _
          have HX := Lib.hid hx
          obtain ⟨gp, hgp⟩ : ∃ gp, gp = wr.heap.size := ⟨_, rfl⟩
          have HGP := Lib.hid hgp
          obtain ⟨g, hg⟩ : ∃ g, g = w.heap.size := ⟨_, rfl⟩
          have HG := Lib.hid hg
          have KA : Hid (∀ W, Below w2.heap.size w2 W → (Below w2.heap.size w2 W ∧ W.cell? ⟨gp, 0, none⟩ = some (.int .i64 x.v.k) ∧ W.cell? ⟨gp, 1, none⟩ = some (.int .i64 x.v.n) ∧ W.cell? ⟨gp, 2, none⟩ = some (.string x.v.s) ∧ W.cell? ⟨gp, 3, none⟩ = some (.int .i64 x.d.d) ∧ W.cell? ⟨gp, 4, none⟩ = some (.int .i64 x.d.s) ∧ W.cell? ⟨gp, 5, none⟩ = some (.int .i64 x.i) ∧ W.cell? ⟨gp, 6, none⟩ = some (.int .i64 x.t) ∧ W.cell? ⟨gp, 7, none⟩ = some (.int .i64 x.a.d) ∧ W.cell? ⟨gp, 8, none⟩ = some (.int .i64 x.a.s) ∧ W.cell? ⟨gp, 9, none⟩ = some (.int .i64 x.j) ∧ W.cell? ⟨gp, 10, none⟩ = some (.bool x.g))) := by
            intro W hW
            obtain ⟨p0, p1, p2, p3, p4, p5, p6, p7, p8, p9, p10⟩ := part_row (row_below hnew hW)
            rw [hgp]
            exact ⟨hW, p0, p1, p2, p3, p4, p5, p6, p7, p8, p9, p10⟩
          have KB : Hid (∀ W, Below w2.heap.size w2 W → W.cell? ⟨g, 4, none⟩ = some (.slice (some ⟨b, o, none⟩) n c)) := by
            intro W hW
            have h1 := below_then BB2.out hW
            rw [hg]
            exact (cell_row5 ((h1.block w.heap.size HS1.out).trans H4.out)).2.2.2.2
          obtain ⟨r, hr, C⟩ : ∃ r, Hid (okB x = r) ∧ Hid (∀ W, Calls Tryz.prog 160 #[.agg #[.int .i64 x.v.k, .int .i64 x.v.n, .string x.v.s, .int .i64 x.d.d, .int .i64 x.d.s, .int .i64 x.i, .int .i64 x.t, .int .i64 x.a.d, .int .i64 x.a.s, .int .i64 x.j, .bool x.g]] W fun e w' => e = .returned (.bool r) ∧ Below W.heap.size W w') := ⟨_, rfl, fun W => rightPartB_any x W⟩
          clear hx hnew hw2 B2 hld hgp hg
          cases r with
          | false =>
            have HF : Hid (false = F) := HN.out (rightB_bad HX.out hr.out)
            go_upto_region 6 with fail
            rw [← HW2.out, ← HGP.out]
            refine wp_region_noPanic ?_
            refine wp_region_held_drew (S := (fun W => Below w2.heap.size w2 W ∧ W.cell? ⟨gp, 0, none⟩ = some (.int .i64 x.v.k) ∧ W.cell? ⟨gp, 1, none⟩ = some (.int .i64 x.v.n) ∧ W.cell? ⟨gp, 2, none⟩ = some (.string x.v.s) ∧ W.cell? ⟨gp, 3, none⟩ = some (.int .i64 x.d.d) ∧ W.cell? ⟨gp, 4, none⟩ = some (.int .i64 x.d.s) ∧ W.cell? ⟨gp, 5, none⟩ = some (.int .i64 x.i) ∧ W.cell? ⟨gp, 6, none⟩ = some (.int .i64 x.t) ∧ W.cell? ⟨gp, 7, none⟩ = some (.int .i64 x.a.d) ∧ W.cell? ⟨gp, 8, none⟩ = some (.int .i64 x.a.s) ∧ W.cell? ⟨gp, 9, none⟩ = some (.int .i64 x.j) ∧ W.cell? ⟨gp, 10, none⟩ = some (.bool x.g))) (by kernel_rfl) ?_ (fun hHeld => ?_)
            · exact KA.out _ (Below.refl _ _).drew
            refine wpAnyH_one (by kernel_rfl) (fun _ _ _ _ _ h => h) (by assumption) 0 18 (some 22) ?_ _ (by rfl) (by rfl) (by kernel_rfl) (by rfl) ?_ ?_
            rotate_left 1
            · intro W hSw
              (try dsimp only at hSw)
              go_simp
              (try with_reducible rfl)
            (try simp only [Act.put, List.setIfInBounds_toArray, List.set_cons_zero, List.set_cons_succ])
            refine wpAnyH_ready (rs := [1]) (by kernel_rfl) (by simp) (AllReadyH.cons rfl (fun K hK => ?_) AllReadyH.nil)
            go_simp
            refine (C.out _).mono ?_
            rintro e wx ⟨rfl, bb⟩
            (try go_wp2_with fail)
            refine hK.out _ _ ?_ (fun hHeld => ?_)
            · (try dsimp only)
              exact KA.out _ (below_then hHeld.1 bb)
            clear hK K
            (try simp only [Act.put, List.setIfInBounds_toArray, List.set_cons_zero, List.set_cons_succ])
            refine wpAnyH_one (by kernel_rfl) (fun _ _ _ _ _ h => h) (by assumption) 2 16 (some 24) ?_ _ (by rfl) (by rfl) (by kernel_rfl) (by rfl) ?_ ?_
            rotate_left 1
            · intro W hSw
              (try dsimp only at hSw)
              go_simp
              (try with_reducible rfl)
            (try simp only [Act.put, List.setIfInBounds_toArray, List.set_cons_zero, List.set_cons_succ])
            refine wpAnyH_puts (by kernel_rfl) (fun _ _ _ _ _ h => h) (by assumption) [3, 4, 5, 6, 7, 8, 9, 10, 11, 12, 13, 14, 15, 16, 17, 18] 0 [(some 25, .bool true), (some 26, undef), (some 27, undef), (some 28, undef), (some 29, undef), (some 30, undef), (some 31, undef), (some 32, undef), (some 33, undef), (some 34, undef), (some 35, undef), (some 36, undef), (some 37, undef), (some 38, undef), (some 39, undef), (some 40, .bool true)] (by kernel_rfl) (by kernel_rfl) ?_
            (try simp only [putsOf, Act.put, List.setIfInBounds_toArray, List.set_cons_zero, List.set_cons_succ])
            refine wpAnyH_done (by kernel_rfl) ?_ _
            refine NoPanic.normal ?_
            (try simp only [Act.put, List.setIfInBounds_toArray, List.set_cons_zero, List.set_cons_succ])
            have B3 := Lib.hid (below_then BB2.out hHeld.1)
            go_wp2_with fail
            go_ret
            exact ⟨ret_bool HF.out, below_then HB.out B3.out⟩
          | true =>
            by_cases hk0 : k = 0
            · have HR2 : Hid (RightB (l.take (k + 1))) := rightB_step HX.out hR.out hr.out (fun y h => by omega)
              have HK0 := Lib.hid hk0
              clear hk0
              go_upto_region 6 with fail
              rw [← HW2.out, ← HGP.out]
              have hk0 := HK0.out
              subst hk0
              refine wp_region_noPanic ?_
              refine wp_region_held_drew (S := (fun W => Below w2.heap.size w2 W ∧ W.cell? ⟨gp, 0, none⟩ = some (.int .i64 x.v.k) ∧ W.cell? ⟨gp, 1, none⟩ = some (.int .i64 x.v.n) ∧ W.cell? ⟨gp, 2, none⟩ = some (.string x.v.s) ∧ W.cell? ⟨gp, 3, none⟩ = some (.int .i64 x.d.d) ∧ W.cell? ⟨gp, 4, none⟩ = some (.int .i64 x.d.s) ∧ W.cell? ⟨gp, 5, none⟩ = some (.int .i64 x.i) ∧ W.cell? ⟨gp, 6, none⟩ = some (.int .i64 x.t) ∧ W.cell? ⟨gp, 7, none⟩ = some (.int .i64 x.a.d) ∧ W.cell? ⟨gp, 8, none⟩ = some (.int .i64 x.a.s) ∧ W.cell? ⟨gp, 9, none⟩ = some (.int .i64 x.j) ∧ W.cell? ⟨gp, 10, none⟩ = some (.bool x.g))) (by kernel_rfl) ?_ (fun hHeld => ?_)
              · exact KA.out _ (Below.refl _ _).drew
              refine wpAnyH_one (by kernel_rfl) (fun _ _ _ _ _ h => h) (by assumption) 0 18 (some 22) ?_ _ (by rfl) (by rfl) (by kernel_rfl) (by rfl) ?_ ?_
              rotate_left 1
              · intro W hSw
                (try dsimp only at hSw)
                go_simp
                (try with_reducible rfl)
              (try simp only [Act.put, List.setIfInBounds_toArray, List.set_cons_zero, List.set_cons_succ])
              refine wpAnyH_ready (rs := [1]) (by kernel_rfl) (by simp) (AllReadyH.cons rfl (fun K hK => ?_) AllReadyH.nil)
              go_simp
              refine (C.out _).mono ?_
              rintro e wx ⟨rfl, bb⟩
              (try go_wp2_with fail)
              refine hK.out _ _ ?_ (fun hHeld => ?_)
              · (try dsimp only)
                exact KA.out _ (below_then hHeld.1 bb)
              clear hK K
              (try simp only [Act.put, List.setIfInBounds_toArray, List.set_cons_zero, List.set_cons_succ])
              refine wpAnyH_one (by kernel_rfl) (fun _ _ _ _ _ h => h) (by assumption) 2 16 (some 24) ?_ _ (by rfl) (by rfl) (by kernel_rfl) (by rfl) ?_ ?_
              rotate_left 1
              · intro W hSw
                (try dsimp only at hSw)
                go_simp
                (try with_reducible rfl)
              (try simp only [Act.put, List.setIfInBounds_toArray, List.set_cons_zero, List.set_cons_succ])
              refine wpAnyH_puts (by kernel_rfl) (fun _ _ _ _ _ h => h) (by assumption) [3, 4] 14 [(some 25, .bool false), (some 26, .int .i64 ((0 : Nat) : Int))] (by kernel_rfl) (by kernel_rfl) ?_
              (try simp only [putsOf, Act.put, List.setIfInBounds_toArray, List.set_cons_zero, List.set_cons_succ])
              refine wpAnyH_one (by kernel_rfl) (fun _ _ _ _ _ h => h) (by assumption) 5 13 (some 27) ?_ _ (by rfl) (by rfl) (by kernel_rfl) (by rfl) ?_ ?_
              rotate_left 1
              · intro W hSw
                (try dsimp only at hSw)
                go_simp
                (try with_reducible rfl)
              (try simp only [Act.put, List.setIfInBounds_toArray, List.set_cons_zero, List.set_cons_succ])
              refine wpAnyH_puts (by kernel_rfl) (fun _ _ _ _ _ h => h) (by assumption) [6, 7, 8, 9, 10, 11, 12, 13, 14, 15, 16, 17, 18] 0 [(some 28, .bool false), (some 29, undef), (some 30, undef), (some 31, undef), (some 32, undef), (some 33, undef), (some 34, undef), (some 35, undef), (some 36, undef), (some 37, undef), (some 38, undef), (some 39, .bool false), (some 40, .bool false)] (by kernel_rfl) (by kernel_rfl) ?_
              (try simp only [putsOf, Act.put, List.setIfInBounds_toArray, List.set_cons_zero, List.set_cons_succ])
              refine wpAnyH_done (by kernel_rfl) ?_ _
              refine NoPanic.normal ?_
              (try simp only [Act.put, List.setIfInBounds_toArray, List.set_cons_zero, List.set_cons_succ])
              have B3 := Lib.hid (below_then BB2.out hHeld.1)
              go_wp2_with fail
              exact ⟨⟨1, by omega, rfl, HR2, B3⟩, by simp [intOf]; omega⟩
            · obtain ⟨b', o', y, he, hb', hy, hldy⟩ := HRD.out.part (show k - 1 < n by omega)
              injection he with he
              injection he with e1 e2
              subst e1; subst e2
              have HY := Lib.hid hy
              have HKN : Hid (k - 1 + 1 = k) := by show _ = _; omega
              have KC : Hid (∀ W, Below w2.heap.size w2 W → (Below w2.heap.size w2 W ∧ W.cell? ⟨gp, 0, none⟩ = some (.int .i64 x.v.k) ∧ W.cell? ⟨gp, 1, none⟩ = some (.int .i64 x.v.n) ∧ W.cell? ⟨gp, 2, none⟩ = some (.string x.v.s) ∧ W.cell? ⟨gp, 3, none⟩ = some (.int .i64 x.d.d) ∧ W.cell? ⟨gp, 4, none⟩ = some (.int .i64 x.d.s) ∧ W.cell? ⟨gp, 5, none⟩ = some (.int .i64 x.i) ∧ W.cell? ⟨gp, 6, none⟩ = some (.int .i64 x.t) ∧ W.cell? ⟨gp, 7, none⟩ = some (.int .i64 x.a.d) ∧ W.cell? ⟨gp, 8, none⟩ = some (.int .i64 x.a.s) ∧ W.cell? ⟨gp, 9, none⟩ = some (.int .i64 x.j) ∧ W.cell? ⟨gp, 10, none⟩ = some (.bool x.g) ∧ W.cell? ⟨g, 4, none⟩ = some (.slice (some ⟨b, o, none⟩) n c) ∧ W.cell? ⟨b, o + (k - 1) * 11, none⟩ = some (.int .i64 y.v.k) ∧ W.cell? ⟨b, o + (k - 1) * 11 + 1, none⟩ = some (.int .i64 y.v.n) ∧ W.cell? ⟨b, o + (k - 1) * 11 + 2, none⟩ = some (.string y.v.s) ∧ W.cell? ⟨b, o + (k - 1) * 11 + 3, none⟩ = some (.int .i64 y.d.d) ∧ W.cell? ⟨b, o + (k - 1) * 11 + 4, none⟩ = some (.int .i64 y.d.s) ∧ W.cell? ⟨b, o + (k - 1) * 11 + 5, none⟩ = some (.int .i64 y.i) ∧ W.cell? ⟨b, o + (k - 1) * 11 + 6, none⟩ = some (.int .i64 y.t) ∧ W.cell? ⟨b, o + (k - 1) * 11 + 7, none⟩ = some (.int .i64 y.a.d) ∧ W.cell? ⟨b, o + (k - 1) * 11 + 8, none⟩ = some (.int .i64 y.a.s) ∧ W.cell? ⟨b, o + (k - 1) * 11 + 9, none⟩ = some (.int .i64 y.j) ∧ W.cell? ⟨b, o + (k - 1) * 11 + 10, none⟩ = some (.bool y.g))) := by
                intro W hW
                obtain ⟨a0, p0, p1, p2, p3, p4, p5, p6, p7, p8, p9, p10⟩ := KA.out W hW
                have h1 := hldy W (below_then BB2.out hW)
                exact ⟨a0, p0, p1, p2, p3, p4, p5, p6, p7, p8, p9, p10, KB.out W hW, h1⟩
              clear hy hldy hb'
              have SPO := Lib.hid (fun W => (spotOf_any y W).mono (R' := fun e w' => e = .returned (spP y).agg ∧ Below W.heap.size W w') fun e w' h => ⟨h.1, h.2.below⟩)
              obtain ⟨r3, hr3, C3⟩ : ∃ r, Hid (ltB y x = r) ∧ Hid (∀ W, Calls Tryz.prog 162 #[.agg #[.int .i64 (spP y).n, .int .i64 (spP y).d.d, .int .i64 (spP y).d.s], .agg #[.int .i64 x.v.k, .int .i64 x.v.n, .string x.v.s, .int .i64 x.d.d, .int .i64 x.d.s, .int .i64 x.i, .int .i64 x.t, .int .i64 x.a.d, .int .i64 x.a.s, .int .i64 x.j, .bool x.g]] W fun e w' => e = .returned (.bool r) ∧ Below W.heap.size W w') := ⟨_, rfl, fun W => (ahead_any (spP y) x W).mono fun e w' h => ⟨h.1, h.2.below⟩⟩
              have z0 : (0 : Int) < (k : Int) := by omega
              have z5 : decide ((0 : Int) < (k : Int)) = true := decide_eq_true z0
              have z6 : 0 < k := by omega
              have z7 : decide (0 < k) = true := decide_eq_true z6
              have z8 : (1 : Int) ≤ (k : Int) := by omega
              have z9 : 1 ≤ k := by omega
              have z1 : (0 : Int) ≤ (k : Int) - 1 := by omega
              have z2 : (k : Int) - 1 < (n : Int) := by omega
              have z3 : ((k : Int) - 1).toNat = k - 1 := by omega
              have z4 : IntKind.i64.wrap ((k : Int) - 1) = (k : Int) - 1 := wrap_is (by omega)
              have hS0 := KC.out w2 (Below.refl _ _)
              have y1 : Hid (r3 = false → false = F) := fun hc => HN.out (rightB_low (k := k - 1) (by rw [HKN.out]; exact HX.out) HY.out (by rw [hr3.out, hc]))
              have y2 : Hid (r3 = true → RightB (l.take (k + 1))) := fun hc => rightB_step HX.out hR.out hr.out (fun z h0 hz => by
                rw [HY.out] at hz; injection hz with hz; subst hz
                rw [hr3.out, hc])
              go_upto_region 6 with fail
              rw [← HW2.out, ← HGP.out, ← HG.out]
              go_region_held3 (fun W => Below w2.heap.size w2 W ∧ W.cell? ⟨gp, 0, none⟩ = some (.int .i64 x.v.k) ∧ W.cell? ⟨gp, 1, none⟩ = some (.int .i64 x.v.n) ∧ W.cell? ⟨gp, 2, none⟩ = some (.string x.v.s) ∧ W.cell? ⟨gp, 3, none⟩ = some (.int .i64 x.d.d) ∧ W.cell? ⟨gp, 4, none⟩ = some (.int .i64 x.d.s) ∧ W.cell? ⟨gp, 5, none⟩ = some (.int .i64 x.i) ∧ W.cell? ⟨gp, 6, none⟩ = some (.int .i64 x.t) ∧ W.cell? ⟨gp, 7, none⟩ = some (.int .i64 x.a.d) ∧ W.cell? ⟨gp, 8, none⟩ = some (.int .i64 x.a.s) ∧ W.cell? ⟨gp, 9, none⟩ = some (.int .i64 x.j) ∧ W.cell? ⟨gp, 10, none⟩ = some (.bool x.g) ∧ W.cell? ⟨g, 4, none⟩ = some (.slice (some ⟨b, o, none⟩) n c) ∧ W.cell? ⟨b, o + (k - 1) * 11, none⟩ = some (.int .i64 y.v.k) ∧ W.cell? ⟨b, o + (k - 1) * 11 + 1, none⟩ = some (.int .i64 y.v.n) ∧ W.cell? ⟨b, o + (k - 1) * 11 + 2, none⟩ = some (.string y.v.s) ∧ W.cell? ⟨b, o + (k - 1) * 11 + 3, none⟩ = some (.int .i64 y.d.d) ∧ W.cell? ⟨b, o + (k - 1) * 11 + 4, none⟩ = some (.int .i64 y.d.s) ∧ W.cell? ⟨b, o + (k - 1) * 11 + 5, none⟩ = some (.int .i64 y.i) ∧ W.cell? ⟨b, o + (k - 1) * 11 + 6, none⟩ = some (.int .i64 y.t) ∧ W.cell? ⟨b, o + (k - 1) * 11 + 7, none⟩ = some (.int .i64 y.a.d) ∧ W.cell? ⟨b, o + (k - 1) * 11 + 8, none⟩ = some (.int .i64 y.a.s) ∧ W.cell? ⟨b, o + (k - 1) * 11 + 9, none⟩ = some (.int .i64 y.j) ∧ W.cell? ⟨b, o + (k - 1) * 11 + 10, none⟩ = some (.bool y.g))
                (first
                  | exact KC.out _ ((Below.refl _ _).drew)
                  | exact KC.out _ (below_then (by go_split_ands; assumption) bb)
                  | assumption)
                (first
                  | (go_at_call 160; refine (C.out _).mono ?_; rintro e wx ⟨rfl, bb⟩)
                  | (go_at_call 161; refine (SPO.out _).mono ?_; rintro e wx ⟨rfl, bb⟩)
                  | (go_at_call 162; refine (C3.out _).mono ?_; rintro e wx ⟨rfl, bb⟩))
              have hSz : Below w2.heap.size w2 wx ∧ wx.cell? ⟨gp, 0, none⟩ = some (.int .i64 x.v.k) ∧ wx.cell? ⟨gp, 1, none⟩ = some (.int .i64 x.v.n) ∧ wx.cell? ⟨gp, 2, none⟩ = some (.string x.v.s) ∧ wx.cell? ⟨gp, 3, none⟩ = some (.int .i64 x.d.d) ∧ wx.cell? ⟨gp, 4, none⟩ = some (.int .i64 x.d.s) ∧ wx.cell? ⟨gp, 5, none⟩ = some (.int .i64 x.i) ∧ wx.cell? ⟨gp, 6, none⟩ = some (.int .i64 x.t) ∧ wx.cell? ⟨gp, 7, none⟩ = some (.int .i64 x.a.d) ∧ wx.cell? ⟨gp, 8, none⟩ = some (.int .i64 x.a.s) ∧ wx.cell? ⟨gp, 9, none⟩ = some (.int .i64 x.j) ∧ wx.cell? ⟨gp, 10, none⟩ = some (.bool x.g) ∧ wx.cell? ⟨g, 4, none⟩ = some (.slice (some ⟨b, o, none⟩) n c) ∧ wx.cell? ⟨b, o + (k - 1) * 11, none⟩ = some (.int .i64 y.v.k) ∧ wx.cell? ⟨b, o + (k - 1) * 11 + 1, none⟩ = some (.int .i64 y.v.n) ∧ wx.cell? ⟨b, o + (k - 1) * 11 + 2, none⟩ = some (.string y.v.s) ∧ wx.cell? ⟨b, o + (k - 1) * 11 + 3, none⟩ = some (.int .i64 y.d.d) ∧ wx.cell? ⟨b, o + (k - 1) * 11 + 4, none⟩ = some (.int .i64 y.d.s) ∧ wx.cell? ⟨b, o + (k - 1) * 11 + 5, none⟩ = some (.int .i64 y.i) ∧ wx.cell? ⟨b, o + (k - 1) * 11 + 6, none⟩ = some (.int .i64 y.t) ∧ wx.cell? ⟨b, o + (k - 1) * 11 + 7, none⟩ = some (.int .i64 y.a.d) ∧ wx.cell? ⟨b, o + (k - 1) * 11 + 8, none⟩ = some (.int .i64 y.a.s) ∧ wx.cell? ⟨b, o + (k - 1) * 11 + 9, none⟩ = some (.int .i64 y.j) ∧ wx.cell? ⟨b, o + (k - 1) * 11 + 10, none⟩ = some (.bool y.g) := by assumption
              have B3 := Lib.hid (below_then BB2.out hSz.1)
              clear z0 z1 z2 z3 z4 z5 z6 z7 z8 z9 hS0 KA KB KC C C3 SPO hSz
              have hg9 := HG.out
              clear HG
              subst hg9
              cases r3 with
              | false =>
                have HF := Lib.hid (y1.out rfl)
                go_wp2_with fail
                go_ret
                exact ⟨ret_bool HF.out, below_then HB.out B3.out⟩
              | true =>
                have HR2 := Lib.hid (y2.out rfl)
                go_wp2_with fail
                exact ⟨⟨k + 1, by omega, by go_num, HR2, B3⟩, by simp [intOf]; omega⟩
        · have HF : Hid (true = F) := by
            have h1 := hR.out
            have h2 := HL.out
            rw [List.take_of_length_le (by omega)] at h1
            exact HK.out h1
          go_wp2_with fail
          go_ret
          exact ⟨ret_bool HF.out, below_then HB.out hbel.out⟩
    · have HF : Hid (false = F) := by show _ = _; rw [hF.out]; simp [rightS, hv]
      have hd : decide (va = zeroV) = false := decide_eq_false hv
      rw [hd] at EQ
      clear hd hv
      subst hk
      go_enter Tryz.func130, Tryz.ntmps130
      go_upto_region 1 with fail
      rw [← hw1]
      clear hw1
      go_wp2_with fail
      go_ret
      exact ⟨ret_bool HF.out, HB.out⟩
  · have HF : Hid (false = F) := by show _ = _; rw [hF.out]; simp [rightS, hk]
    go_enter Tryz.func130, Tryz.ntmps130
    go_upto_region 1 with fail
    rw [← hw1]
    clear hw1
    go_wp2_with fail
    all_goals go_ret
    all_goals exact ⟨ret_bool HF.out, HB.out⟩
end Go.Proofs.YtfljhnalmiibeaaGreat

namespace Go.Proofs.YtfljhnalmiibeaaGreat
set_option maxRecDepth 100000
open Go.RowKit Go.Sort Go.Shelf
attribute [local go_sem] Oper.semAt_some
theorem grown_of_below {W W' : World} (h : Below W.heap.size W W') : W.grownBy W' none := ⟨h.os, h.tape, h.output, h.size, fun k hk _ => h.block k hk⟩
end Go.Proofs.YtfljhnalmiibeaaGreat

namespace Go.Proofs.YtfljhnalmiibeaaGreat
set_option maxRecDepth 100000
open Go.RowKit Go.Sort Go.Shelf
attribute [local go_sem] Oper.semAt_some
/-- what an iterator over numbers leans on -/
structure ItN (B1 : Nat) (A : Option Addr) (m c : Nat) (wb W : World) : Prop where
  b1 : Boxed W B1 70 (.slice A m c)
  bel : Below wb.heap.size wb W
theorem ItN.below {B1 : Nat} {A : Option Addr} {m c : Nat} {wb W W' : World} (h : ItN B1 A m c wb W) (hb : Below W.heap.size W W') : ItN B1 A m c wb W' :=
  ⟨(hb.block B1 h.b1.lt).trans h.b1, below_then h.bel hb⟩
theorem ItN.grown {B1 : Nat} {A : Option Addr} {m c : Nat} {wb W W' : World} {row : Option Nat} (h : ItN B1 A m c wb W) (hg : W.grownBy W' row) (h1 : some B1 ≠ row) (h3 : ∀ k, row = some k → wb.heap.size ≤ k) : ItN B1 A m c wb W' :=
  ⟨h.b1.kept hg h1, h.bel.grown hg h.bel.size h3⟩
theorem ItN.put {B1 : Nat} {A : Option Addr} {m c : Nat} {wb w : World} (hw : wb.heap.size ≤ w.heap.size) (W : World) (l : Nat) (o o' : Obj) (hl : w.heap.size ≤ l) (ho : W.heap[l]? = some o) (hc : o.isCells = false) (_ : o.isWalk = false) (h : ItN B1 A m c wb W) : ItN B1 A m c wb (W.putObj l o') :=
  h.grown (grownBy_putObj' W l o') (fun e => by cases e; rw [h.b1] at ho; cases ho; cases hc) (fun k e => by cases e; omega)
theorem numbers_any9 (A : Option Addr) (n c : Nat) (w : World) : Calls Tryz.prog 113 #[.slice A n c] w fun e w' =>
    e = .returned (.func (.func 143) #[] #[.pointer (some ⟨w.heap.size, 0, none⟩)]) ∧ w' = w.alloc (.cells #[.slice A n c] 70) := by
  go_enter Tryz.func113, Tryz.ntmps113
  go_wp2
  go_ret
  exact ⟨rfl, rfl⟩
theorem itn_new (A : Option Addr) (m c : Nat) (w : World) : ItN w.heap.size A m c w (w.alloc (.cells #[.slice A m c] 70)) := ⟨Boxed.new w _ _, below_new (Below.refl _ _) _⟩
theorem Tryz.egNumbers1 : ∀ args w, (callFunc 143 args).run Tryz.prog w = .ok (.enter 143 args) w := enters_of Tryz.func143 (by kernel_rfl) rfl
abbrev numOf (p : P11) : Int := p.v.n
theorem map_next {L : List P11} {k : Nat} {x : P11} (hx : L[k]? = some x) : (L.take (k + 1)).map numOf = (L.take k).map numOf ++ [x.v.n] := by
  rw [List.take_add_one, hx]; simp
set_option maxHeartbeats 3200000 in
theorem numbers_stops (n : Nat) (hn : 2 ≤ n) (B1 : Nat) (A : Option Addr) (m c : Nat) (L : List P11) (wb w : World) (hrd : RdP wb A m c L) (hI : ItN B1 A m c wb w) :
    SeqStopsK Fence.wide n Tryz.prog 143 #[.pointer (some ⟨B1, 0, none⟩)] (fun x : Int => #[.int .i64 x])
      (fun X Y => ItN B1 A m c wb X → ItN B1 A m c wb Y) (fun ys => ys = L.map numOf) (fun pre => pre <+: L.map numOf) L.length w := by
  intro l J Jx W hW hJ hJx hY h0
  have HI0 := Lib.hid (hI.below hW)
  have HL := Lib.hid hrd.len
  have HRD := Lib.hid hrd; have HY := Lib.hid hY
  have hle := hrd.le
  have HJ : Hid (∀ s A B, J s A → Below A.heap.size A B → J s B) := fun s A B hs hb => hJ s A B none hs (grown_of_below hb) (fun r e => by cases e)
  have c1 := HI0.out.b1.cell
  have H0 := Lib.hid h0
  clear hI hrd hY hJ hJx hW h0
  refine callsIn_of_wp Tryz.func143 rfl trivial ?_ rfl
  simp only [Tryz.ntmps143, List.size_toArray, List.length_cons, List.length_nil, Nat.reduceAdd, Nat.reduceSub, Array.replicate_succ, Array.replicate_zero, List.push_toArray, List.append_toArray, List.nil_append, List.cons_append]
  gi_wp2
  gi_loopw [7] (fun i wr => ∃ (k : Nat) (pre : List Int), k ≤ m ∧ i = .int .i64 k ∧ Hid (pre = (L.take k).map numOf) ∧ Hid (J pre wr) ∧ Hid (ItN B1 A m c wb wr)) (fun i _ => m - (intOf i).toNat)
  case atStart => exact ⟨0, [], Nat.zero_le _, rfl, by show _ = _; simp, H0, HI0⟩
  case round =>
    obtain ⟨k, pre, hk, rfl, hpre, hJs, hIt⟩ := hrel
    by_cases hlt : k < m
    · obtain ⟨b, o, x, rfl, hb, hx, hld⟩ := HRD.out.part hlt
      obtain ⟨c0, c1, c2, c3, c4, c5, c6, c7, c8, c9, c10⟩ := hld wr hIt.out.bel
      have hd2 : Hid (pre ++ [x.v.n] = (L.take (k + 1)).map numOf) := by show _ = _; rw [map_next hx, hpre.out]
      obtain ⟨w2, hw2⟩ : ∃ w2, w2 = wr.alloc (partCells x) := ⟨_, rfl⟩
      have bb : Below wr.heap.size wr w2 := by rw [hw2]; exact below_new (Below.refl _ _) _
      have hnew : w2.heap[wr.heap.size]? = some (partCells x) := by rw [hw2]; exact heap_alloc_new _ _
      have HJ2 := Lib.hid (HJ.out _ _ _ hJs.out bb)
      have HI2 := Lib.hid (hIt.out.below bb)
      obtain ⟨n0, n1, n2, n3, n4, n5, n6, n7, n8, n9, n10⟩ := part_row hnew
      have hlen : pre.length < L.length := by rw [hpre.out, List.length_map, List.length_take, HL.out]; omega
      obtain ⟨fn, tmps, assign, body, hy, hR⟩ := HY.out pre x.v.n w2 HJ2.out hlen
      replace hw2 := Lib.hid hw2
      clear hld hx hnew bb hlen
      gi_upto_region 3 with fail
      rw [show wr.alloc (Obj.cells #[Value.int .i64 x.v.k, .int .i64 x.v.n, .string x.v.s, .int .i64 x.d.d, .int .i64 x.d.s, .int .i64 x.i, .int .i64 x.t, .int .i64 x.a.d, .int .i64 x.a.s, .int .i64 x.j, .bool x.g] 105) = w2 from hw2.out.symm]
      clear hw2 c0 c1 c2 c3 c4 c5 c6 c7 c8 c9 c10
      gi_wp2_with fail
      refine ⟨fun _ => by omega, hR.mono ?_⟩
      rintro e w4 (⟨rfl, hJ4, hk4⟩ | ⟨rfl, hJx4⟩)
      · have HI4 := Lib.hid (hk4 HI2.out)
        have HJ4 := Lib.hid hJ4
        gi_wp2_with fail
        go_roundw
        case rel => exact ⟨k + 1, pre ++ [x.v.n], by omega, by go_num, hd2, HJ4, HI4⟩
        case measure => simp [intOf]; omega
      · gi_wp2_with fail
        refine bodyPost_ret (results_none rfl _ _ _) rfl ?_
        exact ⟨⟨_, rfl⟩, .inr ⟨pre ++ [x.v.n], by rw [hd2.out]; exact (List.take_prefix _ _).map _, hJx4⟩⟩
    · have hfin : Hid (pre = L.map numOf) := by
        show _ = _
        have h1 := HL.out
        rw [hpre.out, List.take_of_length_le (by omega)]
      gi_wp2_with fail
      go_end0
      exact ⟨⟨_, rfl⟩, .inl ⟨pre, hfin.out, hJs.out⟩⟩
end Go.Proofs.YtfljhnalmiibeaaGreat

