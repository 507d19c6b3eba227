/- Several texts laid together: MulRight2, MulVal, MulShow, BagMath. -/
import Derived.Test.YtfljhnalmiibeaaGreatMbBasPut2
import Derived.Deep.RegionHeld3
import Derived.Test.YtfljhnalmiibeaaGreatMbMulCmp
import Derived.Test.YtfljhnalmiibeaaGreatMbBasMath
import Derived.Laws.NewBlocks
import Derived.Test.YtfljhnalmiibeaaGreatMbValMath
import Derived.BigQuiet
namespace Go.Proofs.YtfljhnalmiibeaaGreat
set_option maxRecDepth 100000
open Go.RowKit Go.Sort Srt
set_option maxHeartbeats 6400000 in
theorem right7_any (ka : Int) (va : V3) (A : Option Addr) (n c : Nat) (l : List P11) (w : World) (h : RdP w A n c l) :
    Calls Tryz.prog 129 #[cellV ka va (.slice A n c)] w fun e w' => e = .returned (.bool (rightC ka va l)) ∧ Below w.heap.size w w' := by
  obtain ⟨w1, hw1⟩ : ∃ w1, w1 = w.alloc (cellRow ka va (.slice A n c)) := ⟨_, rfl⟩
  have hb1 : Below w.heap.size w w1 := by rw [hw1]; exact below_new (Below.refl _ _) _
  have h4 : w1.heap[w.heap.size]? = some (cellRow ka va (.slice A n c)) := by rw [hw1]; exact heap_alloc_new _ _
  have hs1 : w.heap.size < w1.heap.size := by rw [hw1]; simp
  have HRD := Lib.hid (h.below hb1)
  have HL := Lib.hid h.len
  have hle := h.le
  have HB := Lib.hid hb1
  have H4 := Lib.hid h4
  have HS1 := Lib.hid hs1
  obtain ⟨F, hF⟩ : ∃ F, Hid (F = rightC ka va l) := ⟨_, rfl⟩
  rw [← hF.out]
  have EQ : ∀ W, (Op.equalIn 10000 68 (.agg #[.int .i64 va.k, .int .i64 va.n, .string va.s]) (.agg #[.int .i64 0, .int .i64 0, .string ⟨#[]⟩])).run Tryz.prog W = .ok (decide (va = zeroV)) W := fun W => run_equalIn_valF 9998 va zeroV W
  obtain ⟨q0, q1, q2, q3, q4⟩ := cell_row5 h4
  clear h hb1 h4 hs1
  by_cases hk : ka = 1
  · by_cases hv : va = zeroV
    · have HK : Hid (RightL l → true = F) := fun h => by rw [hF.out]; simp [rightC, hk, hv, h]
      have HN : Hid (¬ RightL l → false = F) := fun h => by rw [hF.out]; exact rightC_no h
      have hd : decide (va = zeroV) = true := decide_eq_true hv
      rw [hd] at EQ
      clear hd hv
      subst hk
      go_enter Tryz.func129, Tryz.ntmps129
      go_upto_region 1 with fail
      rw [← hw1]
      clear hw1
      go_wp2_with fail
      clear EQ q0 q1 q2 q3 q4
      go_loopw [17] (fun i wr => ∃ k : Nat, k ≤ n ∧ i = .int .i64 k ∧ Hid (RightL (l.take k)) ∧ Hid (Below w1.heap.size w1 wr)) (fun i _ => n - (intOf i).toNat)
      case atStart => exact ⟨0, Nat.zero_le _, rfl, by show RightL _; rw [List.take_zero]; exact ⟨by simp, List.Pairwise.nil⟩, Below.refl _ _⟩
      case round =>
        obtain ⟨k, hk, rfl, hR, hbel⟩ := hrel
        by_cases hlt : k < n
        · obtain ⟨b, o, x, rfl, hb, hx, hld⟩ := HRD.out.part hlt
          obtain ⟨c0, c1, c2, c3, c4, c5, c6, c7, c8, c9, c10⟩ := hld wr hbel.out
          obtain ⟨w2, hw2⟩ : ∃ w2, w2 = wr.alloc (partCells x) := ⟨_, rfl⟩
          have HW2 := Lib.hid hw2
          have B2 : Below wr.heap.size wr w2 := by rw [hw2]; exact below_new (Below.refl _ _) _
          have BB2 := Lib.hid (below_then hbel.out B2)
          have hnew : w2.heap[wr.heap.size]? = some (partCells x) := by rw [hw2]; exact heap_alloc_new _ _
          have HX := Lib.hid hx
          obtain ⟨gp, hgp⟩ : ∃ gp, gp = wr.heap.size := ⟨_, rfl⟩
          have HGP := Lib.hid hgp
          obtain ⟨g, hg⟩ : ∃ g, g = w.heap.size := ⟨_, rfl⟩
          have HG := Lib.hid hg
          have KA : Hid (∀ W, Below w2.heap.size w2 W → (Below w2.heap.size w2 W ∧ W.cell? ⟨gp, 0, none⟩ = some (.int .i64 x.v.k) ∧ W.cell? ⟨gp, 1, none⟩ = some (.int .i64 x.v.n) ∧ W.cell? ⟨gp, 2, none⟩ = some (.string x.v.s) ∧ W.cell? ⟨gp, 3, none⟩ = some (.int .i64 x.d.d) ∧ W.cell? ⟨gp, 4, none⟩ = some (.int .i64 x.d.s) ∧ W.cell? ⟨gp, 5, none⟩ = some (.int .i64 x.i) ∧ W.cell? ⟨gp, 6, none⟩ = some (.int .i64 x.t) ∧ W.cell? ⟨gp, 7, none⟩ = some (.int .i64 x.a.d) ∧ W.cell? ⟨gp, 8, none⟩ = some (.int .i64 x.a.s) ∧ W.cell? ⟨gp, 9, none⟩ = some (.int .i64 x.j) ∧ W.cell? ⟨gp, 10, none⟩ = some (.bool x.g))) := by
            intro W hW
            obtain ⟨p0, p1, p2, p3, p4, p5, p6, p7, p8, p9, p10⟩ := part_row (row_below hnew hW)
            rw [hgp]
            exact ⟨hW, p0, p1, p2, p3, p4, p5, p6, p7, p8, p9, p10⟩
          have KB : Hid (∀ W, Below w2.heap.size w2 W → W.cell? ⟨g, 4, none⟩ = some (.slice (some ⟨b, o, none⟩) n c)) := by
            intro W hW
            have h1 := below_then BB2.out hW
            rw [hg]
            exact (cell_row5 ((h1.block w.heap.size HS1.out).trans H4.out)).2.2.2.2
          obtain ⟨r, hr, C⟩ : ∃ r, Hid (okP x = r) ∧ Hid (∀ W, Calls Tryz.prog 158 #[.agg #[.int .i64 x.v.k, .int .i64 x.v.n, .string x.v.s, .int .i64 x.d.d, .int .i64 x.d.s, .int .i64 x.i, .int .i64 x.t, .int .i64 x.a.d, .int .i64 x.a.s, .int .i64 x.j, .bool x.g]] W fun e w' => e = .returned (.bool r) ∧ Below W.heap.size W w') := ⟨_, rfl, fun W => rightPart_any x W⟩
          clear hx hnew hw2 B2 hld hgp hg
          cases r with
          | false =>
            have HF : Hid (false = F) := HN.out (right_bad HX.out hr.out)
            go_upto_region 6 with fail
            rw [← HW2.out, ← HGP.out]
            refine wp_region_noPanic ?_
            refine wp_region_held_drew (S := (fun W => Below w2.heap.size w2 W ∧ W.cell? ⟨gp, 0, none⟩ = some (.int .i64 x.v.k) ∧ W.cell? ⟨gp, 1, none⟩ = some (.int .i64 x.v.n) ∧ W.cell? ⟨gp, 2, none⟩ = some (.string x.v.s) ∧ W.cell? ⟨gp, 3, none⟩ = some (.int .i64 x.d.d) ∧ W.cell? ⟨gp, 4, none⟩ = some (.int .i64 x.d.s) ∧ W.cell? ⟨gp, 5, none⟩ = some (.int .i64 x.i) ∧ W.cell? ⟨gp, 6, none⟩ = some (.int .i64 x.t) ∧ W.cell? ⟨gp, 7, none⟩ = some (.int .i64 x.a.d) ∧ W.cell? ⟨gp, 8, none⟩ = some (.int .i64 x.a.s) ∧ W.cell? ⟨gp, 9, none⟩ = some (.int .i64 x.j) ∧ W.cell? ⟨gp, 10, none⟩ = some (.bool x.g))) (by kernel_rfl) ?_ (fun hHeld => ?_)
            · exact KA.out _ (Below.refl _ _).drew
            refine wpAnyH_one (by kernel_rfl) (fun _ _ _ _ _ h => h) (by assumption) 0 19 (some 22) ?_ _ (by rfl) (by rfl) (by kernel_rfl) (by rfl) ?_ ?_
            rotate_left 1
            · intro W hSw
              (try dsimp only at hSw)
              go_simp
              (try with_reducible rfl)
            (try simp only [Act.put, List.setIfInBounds_toArray, List.set_cons_zero, List.set_cons_succ])
            refine wpAnyH_ready (rs := [1]) (by kernel_rfl) (by simp) (AllReadyH.cons rfl (fun K hK => ?_) AllReadyH.nil)
            go_simp
            refine (C.out _).mono ?_
            rintro e wx ⟨rfl, bb⟩
            (try go_wp2_with fail)
            refine hK.out _ _ ?_ (fun hHeld => ?_)
            · (try dsimp only)
              exact KA.out _ (below_then hHeld.1 bb)
            clear hK K
            (try simp only [Act.put, List.setIfInBounds_toArray, List.set_cons_zero, List.set_cons_succ])
            refine wpAnyH_one (by kernel_rfl) (fun _ _ _ _ _ h => h) (by assumption) 2 17 (some 24) ?_ _ (by rfl) (by rfl) (by kernel_rfl) (by rfl) ?_ ?_
            rotate_left 1
            · intro W hSw
              (try dsimp only at hSw)
              go_simp
              (try with_reducible rfl)
            (try simp only [Act.put, List.setIfInBounds_toArray, List.set_cons_zero, List.set_cons_succ])
            refine wpAnyH_puts (by kernel_rfl) (fun _ _ _ _ _ h => h) (by assumption) [3, 4, 5, 6, 7, 8, 9, 10, 11, 12, 13, 14, 15, 16, 17, 18, 19] 0 [(some 25, .bool true), (some 26, undef), (some 27, undef), (some 28, undef), (some 29, undef), (some 30, undef), (some 31, undef), (some 32, undef), (some 33, undef), (some 34, undef), (some 35, undef), (some 36, undef), (some 37, undef), (some 38, undef), (some 39, undef), (some 40, undef), (some 41, .bool true)] (by kernel_rfl) (by kernel_rfl) ?_
            (try simp only [putsOf, Act.put, List.setIfInBounds_toArray, List.set_cons_zero, List.set_cons_succ])
            refine wpAnyH_done (by kernel_rfl) ?_ _
            refine NoPanic.normal ?_
            (try simp only [Act.put, List.setIfInBounds_toArray, List.set_cons_zero, List.set_cons_succ])
            have B3 := Lib.hid (below_then BB2.out hHeld.1)
            go_wp2_with fail
            go_ret
            exact ⟨ret_bool HF.out, below_then HB.out B3.out⟩
          | true =>
            by_cases hk0 : k = 0
            · have HR2 : Hid (RightL (l.take (k + 1))) := right_step HX.out hR.out hr.out (fun y h => by omega)
              have HK0 := Lib.hid hk0
              clear hk0
              go_upto_region 6 with fail
              rw [← HW2.out, ← HGP.out]
              have hk0 := HK0.out
              subst hk0
              refine wp_region_noPanic ?_
              refine wp_region_held_drew (S := (fun W => Below w2.heap.size w2 W ∧ W.cell? ⟨gp, 0, none⟩ = some (.int .i64 x.v.k) ∧ W.cell? ⟨gp, 1, none⟩ = some (.int .i64 x.v.n) ∧ W.cell? ⟨gp, 2, none⟩ = some (.string x.v.s) ∧ W.cell? ⟨gp, 3, none⟩ = some (.int .i64 x.d.d) ∧ W.cell? ⟨gp, 4, none⟩ = some (.int .i64 x.d.s) ∧ W.cell? ⟨gp, 5, none⟩ = some (.int .i64 x.i) ∧ W.cell? ⟨gp, 6, none⟩ = some (.int .i64 x.t) ∧ W.cell? ⟨gp, 7, none⟩ = some (.int .i64 x.a.d) ∧ W.cell? ⟨gp, 8, none⟩ = some (.int .i64 x.a.s) ∧ W.cell? ⟨gp, 9, none⟩ = some (.int .i64 x.j) ∧ W.cell? ⟨gp, 10, none⟩ = some (.bool x.g))) (by kernel_rfl) ?_ (fun hHeld => ?_)
              · exact KA.out _ (Below.refl _ _).drew
              refine wpAnyH_one (by kernel_rfl) (fun _ _ _ _ _ h => h) (by assumption) 0 19 (some 22) ?_ _ (by rfl) (by rfl) (by kernel_rfl) (by rfl) ?_ ?_
              rotate_left 1
              · intro W hSw
                (try dsimp only at hSw)
                go_simp
                (try with_reducible rfl)
              (try simp only [Act.put, List.setIfInBounds_toArray, List.set_cons_zero, List.set_cons_succ])
              refine wpAnyH_ready (rs := [1]) (by kernel_rfl) (by simp) (AllReadyH.cons rfl (fun K hK => ?_) AllReadyH.nil)
              go_simp
              refine (C.out _).mono ?_
              rintro e wx ⟨rfl, bb⟩
              (try go_wp2_with fail)
              refine hK.out _ _ ?_ (fun hHeld => ?_)
              · (try dsimp only)
                exact KA.out _ (below_then hHeld.1 bb)
              clear hK K
              (try simp only [Act.put, List.setIfInBounds_toArray, List.set_cons_zero, List.set_cons_succ])
              refine wpAnyH_one (by kernel_rfl) (fun _ _ _ _ _ h => h) (by assumption) 2 17 (some 24) ?_ _ (by rfl) (by rfl) (by kernel_rfl) (by rfl) ?_ ?_
              rotate_left 1
              · intro W hSw
                (try dsimp only at hSw)
                go_simp
                (try with_reducible rfl)
              (try simp only [Act.put, List.setIfInBounds_toArray, List.set_cons_zero, List.set_cons_succ])
              refine wpAnyH_puts (by kernel_rfl) (fun _ _ _ _ _ h => h) (by assumption) [3, 4] 15 [(some 25, .bool false), (some 26, .int .i64 ((0 : Nat) : Int))] (by kernel_rfl) (by kernel_rfl) ?_
              (try simp only [putsOf, Act.put, List.setIfInBounds_toArray, List.set_cons_zero, List.set_cons_succ])
              refine wpAnyH_one (by kernel_rfl) (fun _ _ _ _ _ h => h) (by assumption) 5 14 (some 27) ?_ _ (by rfl) (by rfl) (by kernel_rfl) (by rfl) ?_ ?_
              rotate_left 1
              · intro W hSw
                (try dsimp only at hSw)
                go_simp
                (try with_reducible rfl)
              (try simp only [Act.put, List.setIfInBounds_toArray, List.set_cons_zero, List.set_cons_succ])
              refine wpAnyH_puts (by kernel_rfl) (fun _ _ _ _ _ h => h) (by assumption) [6, 7, 8, 9, 10, 11, 12, 13, 14, 15, 16, 17, 18, 19] 0 [(some 28, .bool false), (some 29, undef), (some 30, undef), (some 31, undef), (some 32, undef), (some 33, undef), (some 34, undef), (some 35, undef), (some 36, undef), (some 37, undef), (some 38, undef), (some 39, undef), (some 40, .bool false), (some 41, .bool false)] (by kernel_rfl) (by kernel_rfl) ?_
              (try simp only [putsOf, Act.put, List.setIfInBounds_toArray, List.set_cons_zero, List.set_cons_succ])
              refine wpAnyH_done (by kernel_rfl) ?_ _
              refine NoPanic.normal ?_
              (try simp only [Act.put, List.setIfInBounds_toArray, List.set_cons_zero, List.set_cons_succ])
              have B3 := Lib.hid (below_then BB2.out hHeld.1)
              go_wp2_with fail
              exact ⟨⟨1, by omega, rfl, HR2, B3⟩, by simp [intOf]; omega⟩
            · obtain ⟨b', o', y, he, hb', hy, hldy⟩ := HRD.out.part (show k - 1 < n by omega)
              injection he with he
              injection he with e1 e2
              subst e1; subst e2
              have HY := Lib.hid hy
              have HKN : Hid (k - 1 + 1 = k) := by show _ = _; omega
              have KC : Hid (∀ W, Below w2.heap.size w2 W → (Below w2.heap.size w2 W ∧ W.cell? ⟨gp, 0, none⟩ = some (.int .i64 x.v.k) ∧ W.cell? ⟨gp, 1, none⟩ = some (.int .i64 x.v.n) ∧ W.cell? ⟨gp, 2, none⟩ = some (.string x.v.s) ∧ W.cell? ⟨gp, 3, none⟩ = some (.int .i64 x.d.d) ∧ W.cell? ⟨gp, 4, none⟩ = some (.int .i64 x.d.s) ∧ W.cell? ⟨gp, 5, none⟩ = some (.int .i64 x.i) ∧ W.cell? ⟨gp, 6, none⟩ = some (.int .i64 x.t) ∧ W.cell? ⟨gp, 7, none⟩ = some (.int .i64 x.a.d) ∧ W.cell? ⟨gp, 8, none⟩ = some (.int .i64 x.a.s) ∧ W.cell? ⟨gp, 9, none⟩ = some (.int .i64 x.j) ∧ W.cell? ⟨gp, 10, none⟩ = some (.bool x.g) ∧ W.cell? ⟨g, 4, none⟩ = some (.slice (some ⟨b, o, none⟩) n c) ∧ W.cell? ⟨b, o + (k - 1) * 11 + 3, none⟩ = some (.int .i64 y.d.d) ∧ W.cell? ⟨b, o + (k - 1) * 11 + 4, none⟩ = some (.int .i64 y.d.s))) := by
                intro W hW
                obtain ⟨a0, p0, p1, p2, p3, p4, p5, p6, p7, p8, p9, p10⟩ := KA.out W hW
                have h1 := hldy W (below_then BB2.out hW)
                exact ⟨a0, p0, p1, p2, p3, p4, p5, p6, p7, p8, p9, p10, KB.out W hW, h1.2.2.2.1, h1.2.2.2.2.1⟩
              clear hy hldy hb'
              obtain ⟨r3, hr3, C3⟩ : ∃ r, Hid (cmpD y.d x.d = r) ∧ Hid (∀ W, Calls Tryz.prog 159 #[.agg #[.int .i64 y.d.d, .int .i64 y.d.s], .agg #[.int .i64 x.d.d, .int .i64 x.d.s]] W fun e w' => e = .returned (.int .i64 r) ∧ Below W.heap.size W w') := ⟨_, rfl, fun W => (compare_any y.d x.d W).mono fun e w' h => ⟨h.1, h.2.below⟩⟩
              have z0 : (0 : Int) < (k : Int) := by omega
              have z5 : decide ((0 : Int) < (k : Int)) = true := decide_eq_true z0
              have z6 : 0 < k := by omega
              have z7 : decide (0 < k) = true := decide_eq_true z6
              have z8 : (1 : Int) ≤ (k : Int) := by omega
              have z9 : 1 ≤ k := by omega
              have z1 : (0 : Int) ≤ (k : Int) - 1 := by omega
              have z2 : (k : Int) - 1 < (n : Int) := by omega
              have z3 : ((k : Int) - 1).toNat = k - 1 := by omega
              have z4 : IntKind.i64.wrap ((k : Int) - 1) = (k : Int) - 1 := wrap_is (by omega)
              have hS0 := KC.out w2 (Below.refl _ _)
              have y1 : Hid (decide (0 ≤ r3) = true → false = F) := fun hc => by
                refine HN.out (right_low (k := k - 1) (by rw [HKN.out]; exact HX.out) HY.out ?_)
                rw [cmpD_above, hr3.out, hc]; rfl
              have y2 : Hid (decide (0 ≤ r3) = false → RightL (l.take (k + 1))) := fun hc => right_step HX.out hR.out hr.out (fun z h0 hz => by
                rw [HY.out] at hz; injection hz with hz; subst hz
                rw [cmpD_above, hr3.out, hc]; rfl)
              go_upto_region 6 with fail
              rw [← HW2.out, ← HGP.out, ← HG.out]
              go_region_held3 (fun W => Below w2.heap.size w2 W ∧ W.cell? ⟨gp, 0, none⟩ = some (.int .i64 x.v.k) ∧ W.cell? ⟨gp, 1, none⟩ = some (.int .i64 x.v.n) ∧ W.cell? ⟨gp, 2, none⟩ = some (.string x.v.s) ∧ W.cell? ⟨gp, 3, none⟩ = some (.int .i64 x.d.d) ∧ W.cell? ⟨gp, 4, none⟩ = some (.int .i64 x.d.s) ∧ W.cell? ⟨gp, 5, none⟩ = some (.int .i64 x.i) ∧ W.cell? ⟨gp, 6, none⟩ = some (.int .i64 x.t) ∧ W.cell? ⟨gp, 7, none⟩ = some (.int .i64 x.a.d) ∧ W.cell? ⟨gp, 8, none⟩ = some (.int .i64 x.a.s) ∧ W.cell? ⟨gp, 9, none⟩ = some (.int .i64 x.j) ∧ W.cell? ⟨gp, 10, none⟩ = some (.bool x.g) ∧ W.cell? ⟨g, 4, none⟩ = some (.slice (some ⟨b, o, none⟩) n c) ∧ W.cell? ⟨b, o + (k - 1) * 11 + 3, none⟩ = some (.int .i64 y.d.d) ∧ W.cell? ⟨b, o + (k - 1) * 11 + 4, none⟩ = some (.int .i64 y.d.s))
                (first
                  | exact KC.out _ ((Below.refl _ _).drew)
                  | exact KC.out _ (below_then (by go_split_ands; assumption) bb)
                  | assumption)
                (first
                  | (go_at_call 158; refine (C.out _).mono ?_; rintro e wx ⟨rfl, bb⟩)
                  | (go_at_call 159; refine (C3.out _).mono ?_; rintro e wx ⟨rfl, bb⟩))
              have hSz : Below w2.heap.size w2 wx ∧ wx.cell? ⟨gp, 0, none⟩ = some (.int .i64 x.v.k) ∧ wx.cell? ⟨gp, 1, none⟩ = some (.int .i64 x.v.n) ∧ wx.cell? ⟨gp, 2, none⟩ = some (.string x.v.s) ∧ wx.cell? ⟨gp, 3, none⟩ = some (.int .i64 x.d.d) ∧ wx.cell? ⟨gp, 4, none⟩ = some (.int .i64 x.d.s) ∧ wx.cell? ⟨gp, 5, none⟩ = some (.int .i64 x.i) ∧ wx.cell? ⟨gp, 6, none⟩ = some (.int .i64 x.t) ∧ wx.cell? ⟨gp, 7, none⟩ = some (.int .i64 x.a.d) ∧ wx.cell? ⟨gp, 8, none⟩ = some (.int .i64 x.a.s) ∧ wx.cell? ⟨gp, 9, none⟩ = some (.int .i64 x.j) ∧ wx.cell? ⟨gp, 10, none⟩ = some (.bool x.g) ∧ wx.cell? ⟨g, 4, none⟩ = some (.slice (some ⟨b, o, none⟩) n c) ∧ wx.cell? ⟨b, o + (k - 1) * 11 + 3, none⟩ = some (.int .i64 y.d.d) ∧ wx.cell? ⟨b, o + (k - 1) * 11 + 4, none⟩ = some (.int .i64 y.d.s) := by assumption
              have B3 := Lib.hid (below_then BB2.out hSz.1)
              clear z0 z1 z2 z3 z4 z5 z6 z7 z8 z9 hS0 KA KB KC C C3 hSz
              have hg9 := HG.out
              clear HG
              subst hg9
              cases hc : decide (0 ≤ r3) with
              | true =>
                have HF := Lib.hid (y1.out hc)
                go_wp2_with fail
                go_ret
                exact ⟨ret_bool HF.out, below_then HB.out B3.out⟩
              | false =>
                have HR2 := Lib.hid (y2.out hc)
                go_wp2_with fail
                exact ⟨⟨k + 1, by omega, by go_num, HR2, B3⟩, by simp [intOf]; omega⟩
        · have HF : Hid (true = F) := by
            have h1 := hR.out
            have h2 := HL.out
            rw [List.take_of_length_le (by omega)] at h1
            exact HK.out h1
          go_wp2_with fail
          go_ret
          exact ⟨ret_bool HF.out, below_then HB.out hbel.out⟩
    · have HF : Hid (false = F) := by show _ = _; rw [hF.out]; simp [rightC, hv]
      have hd : decide (va = zeroV) = false := decide_eq_false hv
      rw [hd] at EQ
      clear hd hv
      subst hk
      go_enter Tryz.func129, Tryz.ntmps129
      go_upto_region 1 with fail
      rw [← hw1]
      clear hw1
      go_wp2_with fail
      go_ret
      exact ⟨ret_bool HF.out, HB.out⟩
  · have HF : Hid (false = F) := by show _ = _; rw [hF.out]; simp [rightC, hk]
    go_enter Tryz.func129, Tryz.ntmps129
    go_upto_region 1 with fail
    rw [← hw1]
    clear hw1
    go_wp2_with fail
    all_goals go_ret
    all_goals exact ⟨ret_bool HF.out, HB.out⟩
end Go.Proofs.YtfljhnalmiibeaaGreat

namespace Go.Proofs.YtfljhnalmiibeaaGreat
set_option maxRecDepth 100000
open Go.RowKit Go.Sort Srt
def ltV (x y : V3) : Bool := lessZ x.k x.n x.s y.k y.n y.s
set_option maxHeartbeats 800000 in
theorem less_grown (x y : V3) (w : World) : Calls Tryz.prog 78 #[x.agg, y.agg] w fun e w' => e = .returned (.bool (ltV x y)) ∧ Grown w w' := by
  obtain ⟨k, n, s⟩ := x
  obtain ⟨k', n', s'⟩ := y
  rcases Decidable.em (k = k') with rfl | hk <;> rcases Decidable.em (n = n') with rfl | hn
  all_goals
    go_enter Tryz.func78, Tryz.ntmps78
    go_wp2
  all_goals go_ret
  all_goals refine ⟨?_, by first | exact ((Grown.refl _).alloc _).alloc _⟩
  all_goals simp_all [ltV, lessZ, strLess]
  all_goals try omega
/-- the greatest one -/
def topL : List V3 → V3
  | [] => ⟨0, 0, ⟨#[]⟩⟩
  | x :: l => l.foldl (fun t v => if ltV t v then v else t) x
theorem topL_more {l : List V3} (h : l ≠ []) (x : V3) : topL (l ++ [x]) = if ltV (topL l) x then x else topL l := by
  match l, h with
  | y :: l, _ =>
    show (l ++ [x]).foldl _ y = _
    rw [List.foldl_append]; rfl
end Go.Proofs.YtfljhnalmiibeaaGreat

namespace Go.Proofs.YtfljhnalmiibeaaGreat
set_option maxRecDepth 100000
open Go.RowKit Go.Sort Srt
abbrev zeroVal : V3 := ⟨0, 0, ⟨#[]⟩⟩
def P11.val (p : P11) : V3 := p.v
theorem val3 {w : World} {g : Nat} {a b c x y z : Value} {t : TypeId} {fr : Nat × Nat} (h : w.heap[g]? = some (.cells #[a, b, c] t fr)) :
    (((w.setCell ⟨g, 0, none⟩ x).setCell ⟨g, 1, none⟩ y).setCell ⟨g, 2, none⟩ z).heap[g]? = some (.cells #[x, y, z] t fr) := set3 h
theorem set3_other {w : World} {g g' : Nat} {x y z : Value} (hg : g ≠ g') : (((w.setCell ⟨g, 0, none⟩ x).setCell ⟨g, 1, none⟩ y).setCell ⟨g, 2, none⟩ z).heap[g']? = w.heap[g']? := by
  have ho : ∀ (w : World) (j : Nat) (x : Value), (w.setCell ⟨g, j, none⟩ x).heap[g']? = w.heap[g']? := fun w j x => by
    show (w.heap.modify g _)[g']? = _
    rw [Array.getElem?_modify, if_neg hg]
  rw [ho, ho, ho]
theorem vals_take {l : List P11} {k : Nat} {x : P11} (h : l[k]? = some x) : (l.take (k + 1)).map P11.val = (l.take k).map P11.val ++ [x.v] := by
  rw [List.take_add_one, h]; simp [P11.val]
theorem vals_ne {l : List P11} {k : Nat} {x : P11} (h : l[k]? = some x) (h0 : 0 < k) : (l.take k).map P11.val ≠ [] := by
  intro e
  have h1 := (List.getElem?_eq_some_iff.1 h).1
  have h2 : ((l.take k).map P11.val).length = 0 := by rw [e]; rfl
  rw [List.length_map, List.length_take] at h2
  omega
set_option maxHeartbeats 3200000 in
theorem show_any7 (ka : Int) (va : V3) (A : Option Addr) (n c : Nat) (l : List P11) (w : World) (h : RdP w A n c l) :
    Calls Tryz.prog 53 #[cellV ka va (.slice A n c)] w fun e w' => e = .returned (topL (l.map P11.val)).agg ∧ Below w.heap.size w w' := by
  have hle := h.le
  obtain ⟨g, hg⟩ : ∃ g, g = w.heap.size := ⟨_, rfl⟩
  obtain ⟨w1, hw1⟩ : ∃ w1, w1 = ((w.alloc (cellRow ka va (.slice A n c))).alloc (valRow zeroVal)).alloc (valRow zeroVal) := ⟨_, rfl⟩
  have hat : ∀ (w : World) (o : Obj) (g : Nat), w.heap.size = g → (w.alloc o).heap[g]? = some o := fun w o g h => by subst h; exact heap_alloc_new _ _
  have HB : Hid (Below w.heap.size w w1) := by rw [hw1]; exact below_new (below_new (below_new (Below.refl _ _) _) _) _
  have R0 : Hid (w1.heap[g]? = some (cellRow ka va (.slice A n c))) := by
    show _ = _
    rw [hw1, hg, Below.heap_alloc _ _ _ (by simp only [World.size_alloc]; omega), Below.heap_alloc _ _ _ (by simp only [World.size_alloc]; omega)]
    exact hat _ _ _ rfl
  have R1 : Hid (w1.heap[g + 1]? = some (valRow zeroVal)) := by
    show _ = _
    rw [hw1, hg, Below.heap_alloc _ _ _ (by simp only [World.size_alloc]; omega)]
    exact hat _ _ _ (by simp only [World.size_alloc])
  have R2 : Hid (w1.heap[g + 2]? = some (valRow zeroVal)) := by
    show _ = _
    rw [hw1, hg]
    exact hat _ _ _ (by simp only [World.size_alloc])
  have HW1 := Lib.hid hw1; have HG := Lib.hid hg; have HRD := Lib.hid h; have HL := Lib.hid h.len
  obtain ⟨F, hF⟩ : ∃ F, Hid (topL (l.map P11.val) = F) := ⟨_, rfl⟩
  rw [hF.out]
  clear hg hw1 hat h
  obtain ⟨c0, c1, c2, c3, c4⟩ := cell_row5 R0.out
  go_enter Tryz.func53, Tryz.ntmps53
  go_upto_region 2 with fail
  rw [← HG.out]
  rw [show ((w.alloc (cellRow ka va (.slice A n c))).alloc (Obj.cells #[Value.int .i64 0, .int .i64 0, .string ⟨#[]⟩] 68)).alloc (Obj.cells #[Value.int .i64 0, .int .i64 0, .string ⟨#[]⟩] 68) = w1 from HW1.out.symm]
  clear HW1
  go_wp2_with fail
  go_loopw [9] (fun i wr => ∃ (k : Nat) (t : V3), k ≤ n ∧ i = .int .i64 k ∧ Hid (topL ((l.take k).map P11.val) = t) ∧ Hid (wr.heap[g + 1]? = some (valRow zeroVal)) ∧ Hid (wr.heap[g + 2]? = some (valRow t)) ∧ Hid (Below w.heap.size w wr)) (fun i _ => n - (intOf i).toNat)
  case atStart => exact ⟨0, zeroVal, Nat.zero_le _, rfl, rfl, R1, R2, HB⟩
  case round =>
    clear c0 c1 c2 c3 c4 HB R1 R2
    obtain ⟨k, t, hk, rfl, ht, R1, R2, HB⟩ := hrel
    by_cases hlt : k < n
    · obtain ⟨b, o, x, rfl, hb, hx, hld⟩ := HRD.out.part hlt
      obtain ⟨d0, d1, d2, d3, d4, d5, d6, d7, d8, d9, d10⟩ := hld wr HB.out
      obtain ⟨w2, hw2⟩ : ∃ w2, w2 = wr.alloc (partCells x) := ⟨_, rfl⟩
      have B2 : Below wr.heap.size wr w2 := by rw [hw2]; exact below_new (Below.refl _ _) _
      have RP : Hid (w2.heap[wr.heap.size]? = some (partCells x)) := by rw [hw2]; exact heap_alloc_new _ _
      have HX := Lib.hid hx
      have HW2 := Lib.hid hw2
      replace R1 := Lib.hid (row_below R1.out B2)
      replace R2 := Lib.hid (row_below R2.out B2)
      replace HB := Lib.hid (below_then HB.out B2)
      obtain ⟨t', ht'⟩ : ∃ t', Hid (topL ((l.take (k + 1)).map P11.val) = t') := ⟨_, rfl⟩
      have hgw : Hid (w.heap.size ≤ g + 2) := by rw [HG.out]; exact Nat.le_add_right _ _
      clear hx hld hw2 B2
      go_upto_region 5 with fail
      rw [show wr.alloc (Obj.cells #[Value.int .i64 x.v.k, .int .i64 x.v.n, .string x.v.s, .int .i64 x.d.d, .int .i64 x.d.s, .int .i64 x.i, .int .i64 x.t, .int .i64 x.a.d, .int .i64 x.a.s, .int .i64 x.j, .bool x.g] 105) = w2 from HW2.out.symm]
      clear HW2
      generalize wr.heap.size = gp at RP ⊢
      clear d0 d1 d2 d3 d4 d5 d6 d7 d8 d9 d10
      obtain ⟨p0, p1, p2, _⟩ := part_row RP.out
      obtain ⟨m0, m1, m2⟩ := val_row R2.out
      have f1 := frozen_row R2.out
      by_cases hk0 : k = 0
      · have hkz : decide ((k : Int) = 0) = true := decide_eq_true (by omega)
        have hkb : ((k : Int) == 0) = true := by simp [hk0]
        have hT : Hid (t' = x.v) := by
          show _ = _
          rw [← ht'.out, vals_take HX.out, hk0]; rfl
        have HK0 := Lib.hid hk0
        clear hk0
        go_wp2_with fail
        refine ⟨⟨k + 1, x.v, by omega, by go_num, by rw [← hT.out]; exact ht', ?_, ?_, ?_⟩, by simp [intOf]; omega⟩
        · show _ = _; rw [set3_other (by omega)]; exact R1.out
        · show _ = _; exact val3 R2.out
        · exact ((HB.out.setCell hgw.out _).setCell hgw.out _).setCell hgw.out _
      · have hkb : ((k : Int) == 0) = false := by simp [hk0]
        obtain ⟨r, hr⟩ : ∃ r, Hid (ltV t x.v = r) := ⟨_, rfl⟩
        have C : Hid (∀ W : World, Calls Tryz.prog 78 #[t.agg, x.v.agg] W fun e w' => e = .returned (.bool r) ∧ Grown W w') := by intro W; rw [← hr.out]; exact less_grown t x.v W
        have hT : Hid (t' = if r then x.v else t) := by
          show _ = _
          rw [← ht'.out, vals_take HX.out, topL_more (vals_ne HX.out (by omega)), ht.out, hr.out]
        clear hr
        go_wp2_with fail
        refine (C.out _).mono ?_
        rintro e w3 ⟨rfl, b3⟩
        replace R1 := Lib.hid (row_below R1.out b3.below)
        replace R2 := Lib.hid (row_below R2.out b3.below)
        replace RP := Lib.hid (row_below RP.out b3.below)
        replace HB := Lib.hid (below_then HB.out b3.below)
        obtain ⟨p0, p1, p2, _⟩ := part_row RP.out
        obtain ⟨m0, m1, m2⟩ := val_row R2.out
        have f1 := frozen_row R2.out
        clear b3 C
        cases r with
        | true =>
          have hT2 : Hid (t' = x.v) := by rw [hT.out]; rfl
          go_wp2_with fail
          refine ⟨⟨k + 1, x.v, by omega, by go_num, by rw [← hT2.out]; exact ht', ?_, ?_, ?_⟩, by simp [intOf]; omega⟩
          · show _ = _; rw [set3_other (by omega)]; exact R1.out
          · show _ = _; exact val3 R2.out
          · exact ((HB.out.setCell hgw.out _).setCell hgw.out _).setCell hgw.out _
        | false =>
          have hT2 : Hid (t' = t) := by rw [hT.out]; rfl
          go_wp2_with fail
          exact ⟨⟨k + 1, t, by omega, by go_num, by rw [← hT2.out]; exact ht', R1, R2, HB⟩, by simp [intOf]; omega⟩
    · have hT : Hid (F = t) := by
        show _ = _
        rw [← hF.out, ← ht.out, List.take_of_length_le (by rw [HL.out]; omega)]
      obtain ⟨m0, m1, m2⟩ := val_row R2.out
      obtain ⟨e0, e1, e2⟩ := val_row R1.out
      have f1 := frozen_row R1.out
      have hgw : Hid (w.heap.size ≤ g + 1) := by rw [HG.out]; exact Nat.le_add_right _ _
      go_wp2_with fail
      refine bodyPost_ret (v := t.agg) (results_cell_row rfl _ _ (g + 1) 68 _ (0, 0) _ rfl (val3 R1.out) Tryz.underlying68 rfl (by kernel_rfl)) rfl ?_
      exact ⟨by rw [hT.out], ((HB.out.setCell hgw.out _).setCell hgw.out _).setCell hgw.out _⟩
end Go.Proofs.YtfljhnalmiibeaaGreat

namespace Go.Proofs.YtfljhnalmiibeaaGreat
set_option maxRecDepth 100000
open Srt
/-- what a part goes by -/
structure Sp where
  n : Int
  d : D2
instance : DecidableEq Sp := fun a b =>
  if h : a.n = b.n ∧ a.d = b.d then isTrue (by cases a; cases b; obtain ⟨h1, h2⟩ := h; simp only at h1 h2; subst h1 h2; rfl)
  else isFalse (fun e => h (by subst e; exact ⟨rfl, rfl⟩))
def spP (p : P11) : Sp := ⟨p.v.n, p.d⟩
/-- the first of three numbers that is not 0 -/
def or3 (x y z : Int) : Int := if x = 0 then (if y = 0 then z else y) else x
def cmpQ (a b : Sp) : Int := or3 (sgnI a.n b.n) (sgnI a.d.d b.d.d) (sgnI a.d.s b.d.s)
def ltQ (a b : Sp) : Bool := decide (a.n < b.n) || (decide (a.n = b.n) && aboveD b.d a.d)
theorem ltQ_iff (a b : Sp) : ltQ a b = true ↔ a.n < b.n ∨ (a.n = b.n ∧ (a.d.d < b.d.d ∨ (b.d.d = a.d.d ∧ a.d.s < b.d.s))) := by
  simp [ltQ, aboveD_iff]
theorem cmpQ_neg (a b : Sp) : cmpQ a b < 0 ↔ ltQ a b = true := by
  rw [ltQ_iff]; unfold cmpQ or3 sgnI; repeat' (first | omega | split)
theorem cmpQ_lt (a b : Sp) : decide (cmpQ a b < 0) = ltQ a b := by
  rcases h : ltQ a b with _ | _
  · exact decide_eq_false (fun e => by rw [cmpQ_neg, h] at e; cases e)
  · exact decide_eq_true ((cmpQ_neg _ _).2 h)
theorem ltQ_trans {a b c : Sp} (h1 : ltQ a b = true) (h2 : ltQ b c = true) : ltQ a c = true := by rw [ltQ_iff] at *; omega
/-- is p ahead of q -/
def ltB (p q : P11) : Bool := ltQ (spP p) (spP q)
/-- rising -/
def RiseB (l : List P11) : Prop := l.Pairwise fun p q => ltB p q = true
/-- the part that stands there, without anything else -/
def partB (s : Sp) : P11 := part0 ⟨1, s.n, ⟨#[]⟩⟩ s.d
/-- may a part stand in a set -/
def okB (p : P11) : Bool := decide (1 ≤ p.d.d) && decide (p.d.d ≤ 64) && decide (1 ≤ p.d.s) && decide (p.d.s ≤ 1048576) && decide (p.v.k = 1) && p.v.right && decide (p = part0 p.v p.d)
def RightB (l : List P11) : Prop := (∀ p ∈ l, okB p = true) ∧ RiseB l
noncomputable instance (l : List P11) : Decidable (RightB l) := Classical.propDecidable _
theorem rightB_step {l : List P11} {k : Nat} {x : P11} (hx : l[k]? = some x) (h : RightB (l.take k)) (ho : okB x = true) (hr : ∀ y, 0 < k → l[k - 1]? = some y → ltB y x = true) : RightB (l.take (k + 1)) := by
  have he : l.take (k + 1) = l.take k ++ [x] := by rw [List.take_add_one, hx]; rfl
  rw [he]
  refine ⟨fun p hp => ?_, ?_⟩
  · rcases List.mem_append.1 hp with hp | hp
    · exact h.1 p hp
    · rw [List.mem_singleton] at hp; subst hp; exact ho
  · refine List.pairwise_append.2 ⟨h.2, List.pairwise_singleton _ _, fun p hp q hq => ?_⟩
    rw [List.mem_singleton] at hq
    subst hq
    rcases Nat.eq_zero_or_pos k with h0 | h0
    · subst h0; simp at hp
    · have hlt : k - 1 < l.length := by have := (List.getElem?_eq_some_iff.1 hx).1; omega
      have hy := List.getElem?_eq_getElem hlt
      have ha := hr _ h0 hy
      have he2 : l.take k = l.take (k - 1) ++ [l[k - 1]] := by
        conv => lhs; rw [show k = k - 1 + 1 by omega]
        rw [List.take_add_one, hy]; rfl
      rw [he2] at hp
      rcases List.mem_append.1 hp with hp | hp
      · have h2 := h.2
        rw [he2] at h2
        exact ltQ_trans ((List.pairwise_append.1 h2).2.2 p hp _ (by simp)) ha
      · rw [List.mem_singleton] at hp; subst hp; exact ha
theorem rightB_bad {l : List P11} {k : Nat} {x : P11} (hx : l[k]? = some x) (ho : okB x = false) : ¬ RightB l := fun h => by
  have := h.1 x (List.mem_of_getElem? hx); rw [ho] at this; cases this
theorem rightB_low {l : List P11} {k : Nat} {x y : P11} (hx : l[k + 1]? = some x) (hy : l[k]? = some y) (hr : ltB y x = false) : ¬ RightB l := fun h => by
  have h2 := List.pairwise_iff_getElem.1 h.2 k (k + 1) (List.getElem?_eq_some_iff.1 hy).1 (List.getElem?_eq_some_iff.1 hx).1 (by omega)
  rw [(List.getElem?_eq_some_iff.1 hx).2, (List.getElem?_eq_some_iff.1 hy).2, hr] at h2
  cases h2
noncomputable def rightS (k : Int) (v : V3) (l : List P11) : Bool := decide (k = 3) && decide (v = zeroV) && decide (RightB l)
end Go.Proofs.YtfljhnalmiibeaaGreat

