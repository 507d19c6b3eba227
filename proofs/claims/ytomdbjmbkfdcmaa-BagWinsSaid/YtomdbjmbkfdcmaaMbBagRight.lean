/- Layer 9: bag.Right. -/
import Derived.Test.YtomdbjmbkfdcmaaMbBagRightP
import Derived.Test.YtomdbjmbkfdcmaaMbTail
import Derived.Deep.RegionHeld3
namespace Go.Proofs.Ytomdbjmbkfdcmaa
set_option maxRecDepth 100000
open Go.RowKit Go.Sort Srt

theorem rightS_no {k : Int} {v : V3} {l : List P11} (h : ¬ RightB l) : false = rightS k v l := by simp [rightS, h]

set_option maxHeartbeats 6400000 in
theorem rightS_any (ka : Int) (va : V3) (A : Option Addr) (n c : Nat) (l : List P11) (w : World) (h : RdP w A n c l) :
    Calls Try.prog 18 #[cellV ka va (.slice A n c)] w fun e w' => e = .returned (.bool (rightS ka va l)) ∧ Below w.heap.size w w' := by
  obtain ⟨w1, hw1⟩ : ∃ w1, w1 = w.alloc (cellRow ka va (.slice A n c)) := ⟨_, rfl⟩
  have hb1 : Below w.heap.size w w1 := by rw [hw1]; exact below_new (Below.refl _ _) _
  have h4 : w1.heap[w.heap.size]? = some (cellRow ka va (.slice A n c)) := by rw [hw1]; exact heap_alloc_new _ _
  have hs1 : w.heap.size < w1.heap.size := by rw [hw1]; simp
  have HRD := Lib.hid (h.below hb1)
  have HL := Lib.hid h.len
  have hle := h.le
  have HB := Lib.hid hb1
  have H4 := Lib.hid h4
  have HS1 := Lib.hid hs1
  obtain ⟨F, hF⟩ : ∃ F, Hid (F = rightS ka va l) := ⟨_, rfl⟩
  rw [← hF.out]
  have EQ : ∀ W, (Op.equalIn 10000 23 (.agg #[.int .i64 va.k, .int .i64 va.n, .string va.s]) (.agg #[.int .i64 0, .int .i64 0, .string ⟨#[]⟩])).run Try.prog W = .ok (decide (va = zeroV)) W := fun W => run_equalIn_valF 9998 va zeroV W
  obtain ⟨q0, q1, q2, q3, q4⟩ := cell_row5 h4
  clear h hb1 h4 hs1
  by_cases hk : ka = 3
  · by_cases hv : va = zeroV
    · have HK : Hid (RightB l → true = F) := fun h => by rw [hF.out]; simp [rightS, hk, hv, h]
      have HN : Hid (¬ RightB l → false = F) := fun h => by rw [hF.out]; exact rightS_no h
      have hd : decide (va = zeroV) = true := decide_eq_true hv
      rw [hd] at EQ
      clear hd hv
      subst hk
      go_enter Try.func18, Try.ntmps18
      go_upto_region 1 with fail
      rw [← hw1]
      clear hw1
      go_wp2_with fail
      clear EQ q0 q1 q2 q3 q4
      go_loopw [17] (fun i wr => ∃ k : Nat, k ≤ n ∧ i = .int .i64 k ∧ Hid (RightB (l.take k)) ∧ Hid (Below w1.heap.size w1 wr)) (fun i _ => n - (intOf i).toNat)
      case atStart => exact ⟨0, Nat.zero_le _, rfl, by show RightB _; rw [List.take_zero]; exact ⟨by simp, List.Pairwise.nil⟩, Below.refl _ _⟩
      case round =>
        obtain ⟨k, hk, rfl, hR, hbel⟩ := hrel
        by_cases hlt : k < n
        · obtain ⟨b, o, x, rfl, hb, hx, hld⟩ := HRD.out.part hlt
          obtain ⟨c0, c1, c2, c3, c4, c5, c6, c7, c8, c9, c10⟩ := hld wr hbel.out
          obtain ⟨w2, hw2⟩ : ∃ w2, w2 = wr.alloc (partCells x) := ⟨_, rfl⟩
          have HW2 := Lib.hid hw2
          have B2 : Below wr.heap.size wr w2 := by rw [hw2]; exact below_new (Below.refl _ _) _
          have BB2 := Lib.hid (below_then hbel.out B2)
          have hnew : w2.heap[wr.heap.size]? = some (partCells x) := by rw [hw2]; exact heap_alloc_new _ _
          have HX := Lib.hid hx
          obtain ⟨gp, hgp⟩ : ∃ gp, gp = wr.heap.size := ⟨_, rfl⟩
          have HGP := Lib.hid hgp
          obtain ⟨g, hg⟩ : ∃ g, g = w.heap.size := ⟨_, rfl⟩
          have HG := Lib.hid hg
          have KA : Hid (∀ W, Below w2.heap.size w2 W → (Below w2.heap.size w2 W ∧ W.cell? ⟨gp, 0, none⟩ = some (.int .i64 x.v.k) ∧ W.cell? ⟨gp, 1, none⟩ = some (.int .i64 x.v.n) ∧ W.cell? ⟨gp, 2, none⟩ = some (.string x.v.s) ∧ W.cell? ⟨gp, 3, none⟩ = some (.int .i64 x.d.d) ∧ W.cell? ⟨gp, 4, none⟩ = some (.int .i64 x.d.s) ∧ W.cell? ⟨gp, 5, none⟩ = some (.int .i64 x.i) ∧ W.cell? ⟨gp, 6, none⟩ = some (.int .i64 x.t) ∧ W.cell? ⟨gp, 7, none⟩ = some (.int .i64 x.a.d) ∧ W.cell? ⟨gp, 8, none⟩ = some (.int .i64 x.a.s) ∧ W.cell? ⟨gp, 9, none⟩ = some (.int .i64 x.j) ∧ W.cell? ⟨gp, 10, none⟩ = some (.bool x.g))) := by
            intro W hW
            obtain ⟨p0, p1, p2, p3, p4, p5, p6, p7, p8, p9, p10⟩ := part_row (row_below hnew hW)
            rw [hgp]
            exact ⟨hW, p0, p1, p2, p3, p4, p5, p6, p7, p8, p9, p10⟩
          have KB : Hid (∀ W, Below w2.heap.size w2 W → W.cell? ⟨g, 4, none⟩ = some (.slice (some ⟨b, o, none⟩) n c)) := by
            intro W hW
            have h1 := below_then BB2.out hW
            rw [hg]
            exact (cell_row5 ((h1.block w.heap.size HS1.out).trans H4.out)).2.2.2.2
          obtain ⟨r, hr, C⟩ : ∃ r, Hid (okB x = r) ∧ Hid (∀ W, Calls Try.prog 43 #[.agg #[.int .i64 x.v.k, .int .i64 x.v.n, .string x.v.s, .int .i64 x.d.d, .int .i64 x.d.s, .int .i64 x.i, .int .i64 x.t, .int .i64 x.a.d, .int .i64 x.a.s, .int .i64 x.j, .bool x.g]] W fun e w' => e = .returned (.bool r) ∧ Below W.heap.size W w') := ⟨_, rfl, fun W => rightPartB_any x W⟩
          clear hx hnew hw2 B2 hld hgp hg
          cases r with
          | false =>
            have HF : Hid (false = F) := HN.out (rightB_bad HX.out hr.out)
            go_upto_region 6 with fail
            rw [← HW2.out, ← HGP.out]
            refine wp_region_noPanic ?_
            refine wp_region_held_drew (S := (fun W => Below w2.heap.size w2 W ∧ W.cell? ⟨gp, 0, none⟩ = some (.int .i64 x.v.k) ∧ W.cell? ⟨gp, 1, none⟩ = some (.int .i64 x.v.n) ∧ W.cell? ⟨gp, 2, none⟩ = some (.string x.v.s) ∧ W.cell? ⟨gp, 3, none⟩ = some (.int .i64 x.d.d) ∧ W.cell? ⟨gp, 4, none⟩ = some (.int .i64 x.d.s) ∧ W.cell? ⟨gp, 5, none⟩ = some (.int .i64 x.i) ∧ W.cell? ⟨gp, 6, none⟩ = some (.int .i64 x.t) ∧ W.cell? ⟨gp, 7, none⟩ = some (.int .i64 x.a.d) ∧ W.cell? ⟨gp, 8, none⟩ = some (.int .i64 x.a.s) ∧ W.cell? ⟨gp, 9, none⟩ = some (.int .i64 x.j) ∧ W.cell? ⟨gp, 10, none⟩ = some (.bool x.g))) (by kernel_rfl) ?_ (fun hHeld => ?_)
            · exact KA.out _ (Below.refl _ _).drew
            refine wpAnyH_one (by kernel_rfl) (fun _ _ _ _ _ h => h) (by assumption) 0 18 (some 22) ?_ _ (by rfl) (by rfl) (by kernel_rfl) (by rfl) ?_ ?_
            rotate_left 1
            · intro W hSw
              (try dsimp only at hSw)
              go_simp
              (try with_reducible rfl)
            (try simp only [Act.put, List.setIfInBounds_toArray, List.set_cons_zero, List.set_cons_succ])
            refine wpAnyH_ready (rs := [1]) (by kernel_rfl) (by simp) (AllReadyH.cons rfl (fun K hK => ?_) AllReadyH.nil)
            go_simp
            refine (C.out _).mono ?_
            rintro e wx ⟨rfl, bb⟩
            (try go_wp2_with fail)
            refine hK.out _ _ ?_ (fun hHeld => ?_)
            · (try dsimp only)
              exact KA.out _ (below_then hHeld.1 bb)
            clear hK K
            (try simp only [Act.put, List.setIfInBounds_toArray, List.set_cons_zero, List.set_cons_succ])
            refine wpAnyH_one (by kernel_rfl) (fun _ _ _ _ _ h => h) (by assumption) 2 16 (some 24) ?_ _ (by rfl) (by rfl) (by kernel_rfl) (by rfl) ?_ ?_
            rotate_left 1
            · intro W hSw
              (try dsimp only at hSw)
              go_simp
              (try with_reducible rfl)
            (try simp only [Act.put, List.setIfInBounds_toArray, List.set_cons_zero, List.set_cons_succ])
            refine wpAnyH_puts (by kernel_rfl) (fun _ _ _ _ _ h => h) (by assumption) [3, 4, 5, 6, 7, 8, 9, 10, 11, 12, 13, 14, 15, 16, 17, 18] 0 [(some 25, .bool true), (some 26, undef), (some 27, undef), (some 28, undef), (some 29, undef), (some 30, undef), (some 31, undef), (some 32, undef), (some 33, undef), (some 34, undef), (some 35, undef), (some 36, undef), (some 37, undef), (some 38, undef), (some 39, undef), (some 40, .bool true)] (by kernel_rfl) (by kernel_rfl) ?_
            (try simp only [putsOf, Act.put, List.setIfInBounds_toArray, List.set_cons_zero, List.set_cons_succ])
            refine wpAnyH_done (by kernel_rfl) ?_ _
            refine NoPanic.normal ?_
            (try simp only [Act.put, List.setIfInBounds_toArray, List.set_cons_zero, List.set_cons_succ])
            have B3 := Lib.hid (below_then BB2.out hHeld.1)
            go_wp2_with fail
            go_ret
            exact ⟨ret_bool HF.out, below_then HB.out B3.out⟩
          | true =>
            by_cases hk0 : k = 0
            · have HR2 : Hid (RightB (l.take (k + 1))) := rightB_step HX.out hR.out hr.out (fun y h => by omega)
              have HK0 := Lib.hid hk0
              clear hk0
              go_upto_region 6 with fail
              rw [← HW2.out, ← HGP.out]
              have hk0 := HK0.out
              subst hk0
              refine wp_region_noPanic ?_
              refine wp_region_held_drew (S := (fun W => Below w2.heap.size w2 W ∧ W.cell? ⟨gp, 0, none⟩ = some (.int .i64 x.v.k) ∧ W.cell? ⟨gp, 1, none⟩ = some (.int .i64 x.v.n) ∧ W.cell? ⟨gp, 2, none⟩ = some (.string x.v.s) ∧ W.cell? ⟨gp, 3, none⟩ = some (.int .i64 x.d.d) ∧ W.cell? ⟨gp, 4, none⟩ = some (.int .i64 x.d.s) ∧ W.cell? ⟨gp, 5, none⟩ = some (.int .i64 x.i) ∧ W.cell? ⟨gp, 6, none⟩ = some (.int .i64 x.t) ∧ W.cell? ⟨gp, 7, none⟩ = some (.int .i64 x.a.d) ∧ W.cell? ⟨gp, 8, none⟩ = some (.int .i64 x.a.s) ∧ W.cell? ⟨gp, 9, none⟩ = some (.int .i64 x.j) ∧ W.cell? ⟨gp, 10, none⟩ = some (.bool x.g))) (by kernel_rfl) ?_ (fun hHeld => ?_)
              · exact KA.out _ (Below.refl _ _).drew
              refine wpAnyH_one (by kernel_rfl) (fun _ _ _ _ _ h => h) (by assumption) 0 18 (some 22) ?_ _ (by rfl) (by rfl) (by kernel_rfl) (by rfl) ?_ ?_
              rotate_left 1
              · intro W hSw
                (try dsimp only at hSw)
                go_simp
                (try with_reducible rfl)
              (try simp only [Act.put, List.setIfInBounds_toArray, List.set_cons_zero, List.set_cons_succ])
              refine wpAnyH_ready (rs := [1]) (by kernel_rfl) (by simp) (AllReadyH.cons rfl (fun K hK => ?_) AllReadyH.nil)
              go_simp
              refine (C.out _).mono ?_
              rintro e wx ⟨rfl, bb⟩
              (try go_wp2_with fail)
              refine hK.out _ _ ?_ (fun hHeld => ?_)
              · (try dsimp only)
                exact KA.out _ (below_then hHeld.1 bb)
              clear hK K
              (try simp only [Act.put, List.setIfInBounds_toArray, List.set_cons_zero, List.set_cons_succ])
              refine wpAnyH_one (by kernel_rfl) (fun _ _ _ _ _ h => h) (by assumption) 2 16 (some 24) ?_ _ (by rfl) (by rfl) (by kernel_rfl) (by rfl) ?_ ?_
              rotate_left 1
              · intro W hSw
                (try dsimp only at hSw)
                go_simp
                (try with_reducible rfl)
              (try simp only [Act.put, List.setIfInBounds_toArray, List.set_cons_zero, List.set_cons_succ])
              refine wpAnyH_puts (by kernel_rfl) (fun _ _ _ _ _ h => h) (by assumption) [3, 4] 14 [(some 25, .bool false), (some 26, .int .i64 ((0 : Nat) : Int))] (by kernel_rfl) (by kernel_rfl) ?_
              (try simp only [putsOf, Act.put, List.setIfInBounds_toArray, List.set_cons_zero, List.set_cons_succ])
              refine wpAnyH_one (by kernel_rfl) (fun _ _ _ _ _ h => h) (by assumption) 5 13 (some 27) ?_ _ (by rfl) (by rfl) (by kernel_rfl) (by rfl) ?_ ?_
              rotate_left 1
              · intro W hSw
                (try dsimp only at hSw)
                go_simp
                (try with_reducible rfl)
              (try simp only [Act.put, List.setIfInBounds_toArray, List.set_cons_zero, List.set_cons_succ])
              refine wpAnyH_puts (by kernel_rfl) (fun _ _ _ _ _ h => h) (by assumption) [6, 7, 8, 9, 10, 11, 12, 13, 14, 15, 16, 17, 18] 0 [(some 28, .bool false), (some 29, undef), (some 30, undef), (some 31, undef), (some 32, undef), (some 33, undef), (some 34, undef), (some 35, undef), (some 36, undef), (some 37, undef), (some 38, undef), (some 39, .bool false), (some 40, .bool false)] (by kernel_rfl) (by kernel_rfl) ?_
              (try simp only [putsOf, Act.put, List.setIfInBounds_toArray, List.set_cons_zero, List.set_cons_succ])
              refine wpAnyH_done (by kernel_rfl) ?_ _
              refine NoPanic.normal ?_
              (try simp only [Act.put, List.setIfInBounds_toArray, List.set_cons_zero, List.set_cons_succ])
              have B3 := Lib.hid (below_then BB2.out hHeld.1)
              go_wp2_with fail
              exact ⟨⟨1, by omega, rfl, HR2, B3⟩, by simp [intOf]; omega⟩
            · obtain ⟨b', o', y, he, hb', hy, hldy⟩ := HRD.out.part (show k - 1 < n by omega)
              injection he with he
              injection he with e1 e2
              subst e1; subst e2
              have HY := Lib.hid hy
              have HKN : Hid (k - 1 + 1 = k) := by show _ = _; omega
              have KC : Hid (∀ W, Below w2.heap.size w2 W → (Below w2.heap.size w2 W ∧ W.cell? ⟨gp, 0, none⟩ = some (.int .i64 x.v.k) ∧ W.cell? ⟨gp, 1, none⟩ = some (.int .i64 x.v.n) ∧ W.cell? ⟨gp, 2, none⟩ = some (.string x.v.s) ∧ W.cell? ⟨gp, 3, none⟩ = some (.int .i64 x.d.d) ∧ W.cell? ⟨gp, 4, none⟩ = some (.int .i64 x.d.s) ∧ W.cell? ⟨gp, 5, none⟩ = some (.int .i64 x.i) ∧ W.cell? ⟨gp, 6, none⟩ = some (.int .i64 x.t) ∧ W.cell? ⟨gp, 7, none⟩ = some (.int .i64 x.a.d) ∧ W.cell? ⟨gp, 8, none⟩ = some (.int .i64 x.a.s) ∧ W.cell? ⟨gp, 9, none⟩ = some (.int .i64 x.j) ∧ W.cell? ⟨gp, 10, none⟩ = some (.bool x.g) ∧ W.cell? ⟨g, 4, none⟩ = some (.slice (some ⟨b, o, none⟩) n c) ∧ W.cell? ⟨b, o + (k - 1) * 11, none⟩ = some (.int .i64 y.v.k) ∧ W.cell? ⟨b, o + (k - 1) * 11 + 1, none⟩ = some (.int .i64 y.v.n) ∧ W.cell? ⟨b, o + (k - 1) * 11 + 2, none⟩ = some (.string y.v.s) ∧ W.cell? ⟨b, o + (k - 1) * 11 + 3, none⟩ = some (.int .i64 y.d.d) ∧ W.cell? ⟨b, o + (k - 1) * 11 + 4, none⟩ = some (.int .i64 y.d.s) ∧ W.cell? ⟨b, o + (k - 1) * 11 + 5, none⟩ = some (.int .i64 y.i) ∧ W.cell? ⟨b, o + (k - 1) * 11 + 6, none⟩ = some (.int .i64 y.t) ∧ W.cell? ⟨b, o + (k - 1) * 11 + 7, none⟩ = some (.int .i64 y.a.d) ∧ W.cell? ⟨b, o + (k - 1) * 11 + 8, none⟩ = some (.int .i64 y.a.s) ∧ W.cell? ⟨b, o + (k - 1) * 11 + 9, none⟩ = some (.int .i64 y.j) ∧ W.cell? ⟨b, o + (k - 1) * 11 + 10, none⟩ = some (.bool y.g))) := by
                intro W hW
                obtain ⟨a0, p0, p1, p2, p3, p4, p5, p6, p7, p8, p9, p10⟩ := KA.out W hW
                have h1 := hldy W (below_then BB2.out hW)
                exact ⟨a0, p0, p1, p2, p3, p4, p5, p6, p7, p8, p9, p10, KB.out W hW, h1⟩
              clear hy hldy hb'
              have SPO := Lib.hid (fun W => (spotOf_any y W).mono (R' := fun e w' => e = .returned (spP y).agg ∧ Below W.heap.size W w') fun e w' h => ⟨h.1, h.2.below⟩)
              obtain ⟨r3, hr3, C3⟩ : ∃ r, Hid (ltB y x = r) ∧ Hid (∀ W, Calls Try.prog 45 #[.agg #[.int .i64 (spP y).n, .int .i64 (spP y).d.d, .int .i64 (spP y).d.s], .agg #[.int .i64 x.v.k, .int .i64 x.v.n, .string x.v.s, .int .i64 x.d.d, .int .i64 x.d.s, .int .i64 x.i, .int .i64 x.t, .int .i64 x.a.d, .int .i64 x.a.s, .int .i64 x.j, .bool x.g]] W fun e w' => e = .returned (.bool r) ∧ Below W.heap.size W w') := ⟨_, rfl, fun W => (ahead_any (spP y) x W).mono fun e w' h => ⟨h.1, h.2.below⟩⟩
              have z0 : (0 : Int) < (k : Int) := by omega
              have z5 : decide ((0 : Int) < (k : Int)) = true := decide_eq_true z0
              have z6 : 0 < k := by omega
              have z7 : decide (0 < k) = true := decide_eq_true z6
              have z8 : (1 : Int) ≤ (k : Int) := by omega
              have z9 : 1 ≤ k := by omega
              have z1 : (0 : Int) ≤ (k : Int) - 1 := by omega
              have z2 : (k : Int) - 1 < (n : Int) := by omega
              have z3 : ((k : Int) - 1).toNat = k - 1 := by omega
              have z4 : IntKind.i64.wrap ((k : Int) - 1) = (k : Int) - 1 := wrap_is (by omega)
              have hS0 := KC.out w2 (Below.refl _ _)
              have y1 : Hid (r3 = false → false = F) := fun hc => HN.out (rightB_low (k := k - 1) (by rw [HKN.out]; exact HX.out) HY.out (by rw [hr3.out, hc]))
              have y2 : Hid (r3 = true → RightB (l.take (k + 1))) := fun hc => rightB_step HX.out hR.out hr.out (fun z h0 hz => by
                rw [HY.out] at hz; injection hz with hz; subst hz
                rw [hr3.out, hc])
              go_upto_region 6 with fail
              rw [← HW2.out, ← HGP.out, ← HG.out]
              go_region_held3 (fun W => Below w2.heap.size w2 W ∧ W.cell? ⟨gp, 0, none⟩ = some (.int .i64 x.v.k) ∧ W.cell? ⟨gp, 1, none⟩ = some (.int .i64 x.v.n) ∧ W.cell? ⟨gp, 2, none⟩ = some (.string x.v.s) ∧ W.cell? ⟨gp, 3, none⟩ = some (.int .i64 x.d.d) ∧ W.cell? ⟨gp, 4, none⟩ = some (.int .i64 x.d.s) ∧ W.cell? ⟨gp, 5, none⟩ = some (.int .i64 x.i) ∧ W.cell? ⟨gp, 6, none⟩ = some (.int .i64 x.t) ∧ W.cell? ⟨gp, 7, none⟩ = some (.int .i64 x.a.d) ∧ W.cell? ⟨gp, 8, none⟩ = some (.int .i64 x.a.s) ∧ W.cell? ⟨gp, 9, none⟩ = some (.int .i64 x.j) ∧ W.cell? ⟨gp, 10, none⟩ = some (.bool x.g) ∧ W.cell? ⟨g, 4, none⟩ = some (.slice (some ⟨b, o, none⟩) n c) ∧ W.cell? ⟨b, o + (k - 1) * 11, none⟩ = some (.int .i64 y.v.k) ∧ W.cell? ⟨b, o + (k - 1) * 11 + 1, none⟩ = some (.int .i64 y.v.n) ∧ W.cell? ⟨b, o + (k - 1) * 11 + 2, none⟩ = some (.string y.v.s) ∧ W.cell? ⟨b, o + (k - 1) * 11 + 3, none⟩ = some (.int .i64 y.d.d) ∧ W.cell? ⟨b, o + (k - 1) * 11 + 4, none⟩ = some (.int .i64 y.d.s) ∧ W.cell? ⟨b, o + (k - 1) * 11 + 5, none⟩ = some (.int .i64 y.i) ∧ W.cell? ⟨b, o + (k - 1) * 11 + 6, none⟩ = some (.int .i64 y.t) ∧ W.cell? ⟨b, o + (k - 1) * 11 + 7, none⟩ = some (.int .i64 y.a.d) ∧ W.cell? ⟨b, o + (k - 1) * 11 + 8, none⟩ = some (.int .i64 y.a.s) ∧ W.cell? ⟨b, o + (k - 1) * 11 + 9, none⟩ = some (.int .i64 y.j) ∧ W.cell? ⟨b, o + (k - 1) * 11 + 10, none⟩ = some (.bool y.g))
                (first
                  | exact KC.out _ ((Below.refl _ _).drew)
                  | exact KC.out _ (below_then (by go_split_ands; assumption) bb)
                  | assumption)
                (first
                  | (go_at_call 43; refine (C.out _).mono ?_; rintro e wx ⟨rfl, bb⟩)
                  | (go_at_call 44; refine (SPO.out _).mono ?_; rintro e wx ⟨rfl, bb⟩)
                  | (go_at_call 45; refine (C3.out _).mono ?_; rintro e wx ⟨rfl, bb⟩))
              have hSz : Below w2.heap.size w2 wx ∧ wx.cell? ⟨gp, 0, none⟩ = some (.int .i64 x.v.k) ∧ wx.cell? ⟨gp, 1, none⟩ = some (.int .i64 x.v.n) ∧ wx.cell? ⟨gp, 2, none⟩ = some (.string x.v.s) ∧ wx.cell? ⟨gp, 3, none⟩ = some (.int .i64 x.d.d) ∧ wx.cell? ⟨gp, 4, none⟩ = some (.int .i64 x.d.s) ∧ wx.cell? ⟨gp, 5, none⟩ = some (.int .i64 x.i) ∧ wx.cell? ⟨gp, 6, none⟩ = some (.int .i64 x.t) ∧ wx.cell? ⟨gp, 7, none⟩ = some (.int .i64 x.a.d) ∧ wx.cell? ⟨gp, 8, none⟩ = some (.int .i64 x.a.s) ∧ wx.cell? ⟨gp, 9, none⟩ = some (.int .i64 x.j) ∧ wx.cell? ⟨gp, 10, none⟩ = some (.bool x.g) ∧ wx.cell? ⟨g, 4, none⟩ = some (.slice (some ⟨b, o, none⟩) n c) ∧ wx.cell? ⟨b, o + (k - 1) * 11, none⟩ = some (.int .i64 y.v.k) ∧ wx.cell? ⟨b, o + (k - 1) * 11 + 1, none⟩ = some (.int .i64 y.v.n) ∧ wx.cell? ⟨b, o + (k - 1) * 11 + 2, none⟩ = some (.string y.v.s) ∧ wx.cell? ⟨b, o + (k - 1) * 11 + 3, none⟩ = some (.int .i64 y.d.d) ∧ wx.cell? ⟨b, o + (k - 1) * 11 + 4, none⟩ = some (.int .i64 y.d.s) ∧ wx.cell? ⟨b, o + (k - 1) * 11 + 5, none⟩ = some (.int .i64 y.i) ∧ wx.cell? ⟨b, o + (k - 1) * 11 + 6, none⟩ = some (.int .i64 y.t) ∧ wx.cell? ⟨b, o + (k - 1) * 11 + 7, none⟩ = some (.int .i64 y.a.d) ∧ wx.cell? ⟨b, o + (k - 1) * 11 + 8, none⟩ = some (.int .i64 y.a.s) ∧ wx.cell? ⟨b, o + (k - 1) * 11 + 9, none⟩ = some (.int .i64 y.j) ∧ wx.cell? ⟨b, o + (k - 1) * 11 + 10, none⟩ = some (.bool y.g) := by assumption
              have B3 := Lib.hid (below_then BB2.out hSz.1)
              clear z0 z1 z2 z3 z4 z5 z6 z7 z8 z9 hS0 KA KB KC C C3 SPO hSz
              have hg9 := HG.out
              clear HG
              subst hg9
              cases r3 with
              | false =>
                have HF := Lib.hid (y1.out rfl)
                go_wp2_with fail
                go_ret
                exact ⟨ret_bool HF.out, below_then HB.out B3.out⟩
              | true =>
                have HR2 := Lib.hid (y2.out rfl)
                go_wp2_with fail
                exact ⟨⟨k + 1, by omega, by go_num, HR2, B3⟩, by simp [intOf]; omega⟩
        · have HF : Hid (true = F) := by
            have h1 := hR.out
            have h2 := HL.out
            rw [List.take_of_length_le (by omega)] at h1
            exact HK.out h1
          go_wp2_with fail
          go_ret
          exact ⟨ret_bool HF.out, below_then HB.out hbel.out⟩
    · have HF : Hid (false = F) := by show _ = _; rw [hF.out]; simp [rightS, hv]
      have hd : decide (va = zeroV) = false := decide_eq_false hv
      rw [hd] at EQ
      clear hd hv
      subst hk
      go_enter Try.func18, Try.ntmps18
      go_upto_region 1 with fail
      rw [← hw1]
      clear hw1
      go_wp2_with fail
      go_ret
      exact ⟨ret_bool HF.out, HB.out⟩
  · have HF : Hid (false = F) := by show _ = _; rw [hF.out]; simp [rightS, hk]
    go_enter Try.func18, Try.ntmps18
    go_upto_region 1 with fail
    rw [← hw1]
    clear hw1
    go_wp2_with fail
    all_goals go_ret
    all_goals exact ⟨ret_bool HF.out, HB.out⟩
end Go.Proofs.Ytomdbjmbkfdcmaa

