/- Whatever vectors and dot come in: VectorDots answers true: a dot is in the Join just if it is in one of both, in the Meet just if it is in both; all that one has another one has just if it is up to it. No condition. -/
import Derived.Test.YtefbgbciaiedeaaRows
import Derived.Test.YtefbgbciaiedeaaLaw
import Derived.Test.YtefbgbciaiedeaaVecAlive
import Derived.Test.YtefbgbciaiedeaaVecOpen
import Derived.Test.YtefbgbciaiedeaaVecLaw
import Derived.Deep.RegionHeld3
import Derived.Deep.CutBlock
import Derived.Test.YtefbgbciaiedeaaTail
namespace Go.Proofs.Ytefbgbciaiedeaa.vectorDots
open Go.ChangeShapes Go.WideShapes Go.ChangeAt Go.RowKit Go.ChangeMaps

set_option maxRecDepth 100000 in
set_option maxHeartbeats 12800000 in
theorem walk (A B : Option Addr) (n c m d : Nat) (a b : List Int) (u v : Int) (w : World) (ha : Rd w A n c (vals .i64 a)) (hb : Rd w B m d (vals .i64 b)) :
    Calls Try.prog 8 #[.slice A n c, .slice B m d, .agg #[.int .i64 u, .int .i64 v]] w fun e w' => e = .returned (.bool true) ∧ Below w.heap.size w w' := by
  have HA := Lib.hid ha; have HB := Lib.hid hb
  have hla := Lib.hid (show a.length = n by simpa using ha.len); have hlb := Lib.hid (show b.length = m by simpa using hb.len)
  clear ha hb
  have BB := below_new (Below.refl w.heap.size w) (.cells #[.int .i64 u, .int .i64 v] 25)
  have Q : Hid ((w.alloc (.cells #[.int .i64 u, .int .i64 v] 25)).heap[w.heap.size]? = some (.cells #[.int .i64 u, .int .i64 v] 25)) := heap_alloc_new w _
  by_cases hf : n ≤ 100 ∧ m ≤ 100
  rotate_left
  · have hfew : (decide (n ≤ 100) && decide (m ≤ 100)) = false := by
      by_cases h1 : n ≤ 100 <;> by_cases h2 : m ≤ 100 <;> simp [h1, h2] <;> omega
    clear hf
    go_enter Try.func8, Try.ntmps8
    go_wp2_with fail
    generalize w.alloc (.cells #[.int .i64 u, .int .i64 v] 25) = w0 at Q BB ⊢
    skip
    refine (is_bool (r := false) hfew (vecFew_any A B n m c d _)).mono ?_
    rintro e w1 ⟨rfl, hw1⟩
    have b1 := same_below hw1
    clear hw1
    have B1 := below_then (BB) b1
    replace Q := Lib.hid (row_below (Q.out) b1)
    clear b1
    go_wp2_with fail
    refine (vecAlive_any _).mono ?_
    rintro e w2 ⟨rfl, b2⟩
    have B2 := below_then (B1) b2
    replace Q := Lib.hid (row_below (Q.out) b2)
    clear B1
    clear b2
    go_wp2
    go_ret
    exact ⟨rfl, B2⟩
  have hfew : (decide (n ≤ 100) && decide (m ≤ 100)) = true := by simp [hf.1, hf.2]
  have hn4 : n ≤ 4294967296 := by omega
  have hm4 : m ≤ 4294967296 := by omega
  obtain ⟨J, kJ, hJ, hkJ, hlJ, HJ⟩ := named_join a b (by rw [hla.out]; omega) (by rw [hlb.out]; omega)
  obtain ⟨M, kM, hM, hkM, hlM, HM⟩ := named_meet a b (by rw [hla.out]; omega) (by rw [hlb.out]; omega)
  have HJ1 := has_join a b u v; have HM1 := has_meet a b u v; have HU1 := @has_upto a b u v
  rw [hJ.out] at HJ1
  rw [hM.out] at HM1
  obtain ⟨x, hx⟩ : ∃ x, hasV a u v = x := ⟨_, rfl⟩
  obtain ⟨y, hy⟩ : ∃ y, hasV b u v = y := ⟨_, rfl⟩
  obtain ⟨p, hp⟩ : ∃ p, uptoV a b = p := ⟨_, rfl⟩
  rw [hx, hy] at HJ1 HM1 HU1
  rw [hp] at HU1
  replace HJ1 := Lib.hid HJ1; replace HM1 := Lib.hid HM1; replace HU1 := Lib.hid HU1
  have P3 : Hid (∀ W, Below w.heap.size w W → Calls Try.prog 21 #[.slice A n c, .slice B m d] W fun e W' => e = .returned (.bool p) ∧ Below W.heap.size W W') := Lib.hid fun W hW => hp ▸ (vecUpto_any A B n m c d a b W (HA.out.below hW) (HB.out.below hW)).mono fun _ _ h => ⟨h.1, same_below h.2⟩
  have P4 : Hid (∀ W, Below w.heap.size w W → Calls Try.prog 24 #[.slice A n c, .slice B m d] W fun e W' => ∃ A' c', e = .returned (.slice A' kJ c') ∧ Rd W' A' kJ c' (vals .i64 J) ∧ Below W.heap.size W W') := Lib.hid fun W hW => vecJoin_is hJ.out hkJ.out (HA.out.below hW) (HB.out.below hW) hn4 hm4
  have P5 : Hid (∀ W, Below w.heap.size w W → Calls Try.prog 26 #[.slice A n c, .slice B m d] W fun e W' => ∃ A' c', e = .returned (.slice A' kM c') ∧ Rd W' A' kM c' (vals .i64 M) ∧ Below W.heap.size W W') := Lib.hid fun W hW => vecMeet_is hM.out hkM.out (HA.out.below hW) (HB.out.below hW) hn4 hm4
  clear hf hn4 hm4 hJ hkJ HJ hM hkM HM hla hlb hp
  replace hx := Lib.hid hx; replace hy := Lib.hid hy
  go_enter Try.func8, Try.ntmps8
  go_wp2_with fail
  generalize w.alloc (.cells #[.int .i64 u, .int .i64 v] 25) = w0 at Q BB ⊢
  skip
  refine (is_bool (r := true) hfew (vecFew_any A B n m c d _)).mono ?_
  rintro e w1 ⟨rfl, hw1⟩
  have b1 := same_below hw1
  clear hw1
  have B1 := below_then (BB) b1
  replace Q := Lib.hid (row_below (Q.out) b1)
  clear b1
  obtain ⟨z0, z1⟩ := pair_at Q.out
  have BD := B1.drew
  have BN := B1
  clear Q
  go_upto_region 3 with (fail)
  go_cut [7, 8] from 14 to 19 (fun s t W => s = .bool x ∧ t = .bool y ∧ Below w.heap.size w W ∧ W.cell? ⟨w.heap.size, 0, none⟩ = some (.int .i64 u) ∧ W.cell? ⟨w.heap.size, 1, none⟩ = some (.int .i64 v))
  case first =>
    go_region_held3 (fun W => Below w.heap.size w W ∧ W.cell? ⟨w.heap.size, 0, none⟩ = some (.int .i64 u) ∧ W.cell? ⟨w.heap.size, 1, none⟩ = some (.int .i64 v))
      (first
        | (go_split_ands
           refine ⟨?_, ?_, ?_⟩
           · exact below_then (by assumption) bb
           all_goals exact (bb.cell (World.block_lt_of_cell? _ _ (by assumption))).trans (by assumption))
        | (go_split_ands
           refine ⟨?_, ?_, ?_⟩
           · exact Below.drew (by assumption)
           all_goals (show World.cell? _ _ = _; assumption))
        | (go_split_ands
           refine ⟨?_, ?_, ?_⟩
           all_goals assumption)
        | go_keep)
      (first
        | (go_at_call 17; refine (vecHas_any _ _ _ _ u v _ (by first | exact HA.out.below (by go_split_ands; assumption) | exact HB.out.below (by go_split_ands; assumption))).mono ?_; rintro e wx ⟨rfl, bb⟩))
    all_goals go_wp2_with fail
    all_goals go_meet
    all_goals go_split_ands
    all_goals exact ⟨congrArg Value.bool hx.out, congrArg Value.bool hy.out, by assumption, by assumption, by assumption⟩
  case rest =>
    obtain ⟨rfl, rfl, hBe, z0, z1⟩ := hcut
    cases x with
    | false =>
      cases y with
      | false =>
        cases p with
        | false =>
          go_wp2_with fail
          refine wp_region_noPanic ?_
          refine wp_region_held_drew (S := (fun W => Below w.heap.size w W ∧ W.cell? ⟨w.heap.size, 0, none⟩ = some (.int .i64 u) ∧ W.cell? ⟨w.heap.size, 1, none⟩ = some (.int .i64 v))) (by kernel_rfl) ?_ (fun hHeld => ?_)
          · exact ⟨hBe.drew, z0, z1⟩
          refine wpAnyH_ready (rs := [0]) (by kernel_rfl) (by simp) (AllReadyH.cons rfl (fun K hK => ?_) AllReadyH.nil)
          go_simp
          refine (vecAlive_any _).mono ?_
          rintro e wx ⟨rfl, bb⟩
          (try go_wp2_with fail)
          refine hK.out _ _ ?_ (fun hHeld => ?_)
          · (try dsimp only)
            exact ⟨below_then hHeld.1 bb, (bb.cell (World.block_lt_of_cell? _ _ hHeld.2.1)).trans hHeld.2.1, (bb.cell (World.block_lt_of_cell? _ _ hHeld.2.2)).trans hHeld.2.2⟩
          clear hK K
          (try simp only [Act.put, List.setIfInBounds_toArray, List.set_cons_zero, List.set_cons_succ])
          refine wpAnyH_puts (by kernel_rfl) (fun _ _ _ _ _ h => h) (by assumption) [1, 2, 3] 35 [(some 21, .bool true), (some 22, .slice A n c), (some 23, .slice B m d)] (by kernel_rfl) (by kernel_rfl) ?_
          (try simp only [putsOf, Act.put, List.setIfInBounds_toArray, List.set_cons_zero, List.set_cons_succ])
          refine wpAnyH_one (by kernel_rfl) (fun _ _ _ _ _ h => h) (by assumption) 5 34 (some 25) ?_ _ (by rfl) (by rfl) (by kernel_rfl) (by rfl) ?_ ?_
          rotate_left 1
          · intro W hSw
            (try dsimp only at hSw)
            go_simp
            (try with_reducible rfl)
          (try simp only [Act.put, List.setIfInBounds_toArray, List.set_cons_zero, List.set_cons_succ])
          refine wpAnyH_puts (by kernel_rfl) (fun _ _ _ _ _ h => h) (by assumption) [7] 33 [(some 27, .bool false)] (by kernel_rfl) (by kernel_rfl) ?_
          (try simp only [putsOf, Act.put, List.setIfInBounds_toArray, List.set_cons_zero, List.set_cons_succ])
          refine wpAnyH_ready (rs := [4]) (by kernel_rfl) (by simp) (AllReadyH.cons rfl (fun K hK => ?_) AllReadyH.nil)
          go_simp
          refine (P4.out _ hHeld.1).mono ?_
          rintro e wx ⟨X1, d1, rfl, r1, bb⟩
          (try go_wp2_with fail)
          refine hK.out _ _ ?_ (fun hHeld => ?_)
          · (try dsimp only)
            exact ⟨below_then hHeld.1 bb, (bb.cell (World.block_lt_of_cell? _ _ hHeld.2.1)).trans hHeld.2.1, (bb.cell (World.block_lt_of_cell? _ _ hHeld.2.2)).trans hHeld.2.2⟩
          clear hK K
          (try simp only [Act.put, List.setIfInBounds_toArray, List.set_cons_zero, List.set_cons_succ])
          refine wpAnyH_ready (rs := [6]) (by kernel_rfl) (by simp) (AllReadyH.cons rfl (fun K hK => ?_) AllReadyH.nil)
          go_simp
          refine (is_bool (r := false) HJ1.out (vecHas_any _ _ _ J u v _ r1)).mono ?_
          rintro e wx ⟨rfl, bb⟩
          (try go_wp2_with fail)
          refine hK.out _ _ ?_ (fun hHeld => ?_)
          · (try dsimp only)
            exact ⟨below_then hHeld.1 bb, (bb.cell (World.block_lt_of_cell? _ _ hHeld.2.1)).trans hHeld.2.1, (bb.cell (World.block_lt_of_cell? _ _ hHeld.2.2)).trans hHeld.2.2⟩
          clear hK K
          (try simp only [Act.put, List.setIfInBounds_toArray, List.set_cons_zero, List.set_cons_succ])
          refine wpAnyH_puts (by kernel_rfl) (fun _ _ _ _ _ h => h) (by assumption) [8, 9, 10] 28 [(some 28, .bool false), (some 29, .bool false), (some 30, .bool false)] (by kernel_rfl) (by kernel_rfl) ?_
          (try simp only [putsOf, Act.put, List.setIfInBounds_toArray, List.set_cons_zero, List.set_cons_succ])
          refine wpAnyH_one (by kernel_rfl) (fun _ _ _ _ _ h => h) (by assumption) 11 27 (some 31) ?_ _ (by rfl) (by rfl) (by kernel_rfl) (by rfl) ?_ ?_
          rotate_left 1
          · intro W hSw
            (try dsimp only at hSw)
            go_simp
            (try with_reducible rfl)
          (try simp only [Act.put, List.setIfInBounds_toArray, List.set_cons_zero, List.set_cons_succ])
          refine wpAnyH_puts (by kernel_rfl) (fun _ _ _ _ _ h => h) (by assumption) [12, 13, 14, 15] 23 [(some 32, .bool true), (some 33, .bool true), (some 34, .slice A n c), (some 35, .slice B m d)] (by kernel_rfl) (by kernel_rfl) ?_
          (try simp only [putsOf, Act.put, List.setIfInBounds_toArray, List.set_cons_zero, List.set_cons_succ])
          refine wpAnyH_one (by kernel_rfl) (fun _ _ _ _ _ h => h) (by assumption) 17 22 (some 37) ?_ _ (by rfl) (by rfl) (by kernel_rfl) (by rfl) ?_ ?_
          rotate_left 1
          · intro W hSw
            (try dsimp only at hSw)
            go_simp
            (try with_reducible rfl)
          (try simp only [Act.put, List.setIfInBounds_toArray, List.set_cons_zero, List.set_cons_succ])
          refine wpAnyH_puts (by kernel_rfl) (fun _ _ _ _ _ h => h) (by assumption) [19] 21 [(some 39, .bool false)] (by kernel_rfl) (by kernel_rfl) ?_
          (try simp only [putsOf, Act.put, List.setIfInBounds_toArray, List.set_cons_zero, List.set_cons_succ])
          refine wpAnyH_ready (rs := [16]) (by kernel_rfl) (by simp) (AllReadyH.cons rfl (fun K hK => ?_) AllReadyH.nil)
          go_simp
          refine (P5.out _ hHeld.1).mono ?_
          rintro e wx ⟨X2, d2, rfl, r2, bb⟩
          (try go_wp2_with fail)
          refine hK.out _ _ ?_ (fun hHeld => ?_)
          · (try dsimp only)
            exact ⟨below_then hHeld.1 bb, (bb.cell (World.block_lt_of_cell? _ _ hHeld.2.1)).trans hHeld.2.1, (bb.cell (World.block_lt_of_cell? _ _ hHeld.2.2)).trans hHeld.2.2⟩
          clear hK K
          (try simp only [Act.put, List.setIfInBounds_toArray, List.set_cons_zero, List.set_cons_succ])
          refine wpAnyH_ready (rs := [18]) (by kernel_rfl) (by simp) (AllReadyH.cons rfl (fun K hK => ?_) AllReadyH.nil)
          go_simp
          refine (is_bool (r := false) HM1.out (vecHas_any _ _ _ M u v _ r2)).mono ?_
          rintro e wx ⟨rfl, bb⟩
          (try go_wp2_with fail)
          refine hK.out _ _ ?_ (fun hHeld => ?_)
          · (try dsimp only)
            exact ⟨below_then hHeld.1 bb, (bb.cell (World.block_lt_of_cell? _ _ hHeld.2.1)).trans hHeld.2.1, (bb.cell (World.block_lt_of_cell? _ _ hHeld.2.2)).trans hHeld.2.2⟩
          clear hK K
          (try simp only [Act.put, List.setIfInBounds_toArray, List.set_cons_zero, List.set_cons_succ])
          refine wpAnyH_puts (by kernel_rfl) (fun _ _ _ _ _ h => h) (by assumption) [20, 21, 22] 16 [(some 40, .bool false), (some 41, undef), (some 42, .bool false)] (by kernel_rfl) (by kernel_rfl) ?_
          (try simp only [putsOf, Act.put, List.setIfInBounds_toArray, List.set_cons_zero, List.set_cons_succ])
          refine wpAnyH_one (by kernel_rfl) (fun _ _ _ _ _ h => h) (by assumption) 23 15 (some 43) ?_ _ (by rfl) (by rfl) (by kernel_rfl) (by rfl) ?_ ?_
          rotate_left 1
          · intro W hSw
            (try dsimp only at hSw)
            go_simp
            (try with_reducible rfl)
          (try simp only [Act.put, List.setIfInBounds_toArray, List.set_cons_zero, List.set_cons_succ])
          refine wpAnyH_puts (by kernel_rfl) (fun _ _ _ _ _ h => h) (by assumption) [24, 25, 26, 27] 11 [(some 44, .bool true), (some 45, .bool true), (some 46, .slice A n c), (some 47, .slice B m d)] (by kernel_rfl) (by kernel_rfl) ?_
          (try simp only [putsOf, Act.put, List.setIfInBounds_toArray, List.set_cons_zero, List.set_cons_succ])
          refine wpAnyH_ready (rs := [28]) (by kernel_rfl) (by simp) (AllReadyH.cons rfl (fun K hK => ?_) AllReadyH.nil)
          go_simp
          refine (P3.out _ hHeld.1).mono ?_
          rintro e wx ⟨rfl, bb⟩
          (try go_wp2_with fail)
          refine hK.out _ _ ?_ (fun hHeld => ?_)
          · (try dsimp only)
            exact ⟨below_then hHeld.1 bb, (bb.cell (World.block_lt_of_cell? _ _ hHeld.2.1)).trans hHeld.2.1, (bb.cell (World.block_lt_of_cell? _ _ hHeld.2.2)).trans hHeld.2.2⟩
          clear hK K
          (try simp only [Act.put, List.setIfInBounds_toArray, List.set_cons_zero, List.set_cons_succ])
          refine wpAnyH_one (by kernel_rfl) (fun _ _ _ _ _ h => h) (by assumption) 29 9 (some 49) ?_ _ (by rfl) (by rfl) (by kernel_rfl) (by rfl) ?_ ?_
          rotate_left 1
          · intro W hSw
            (try dsimp only at hSw)
            go_simp
            (try with_reducible rfl)
          (try simp only [Act.put, List.setIfInBounds_toArray, List.set_cons_zero, List.set_cons_succ])
          refine wpAnyH_puts (by kernel_rfl) (fun _ _ _ _ _ h => h) (by assumption) [30, 31, 32, 33, 34, 35, 36, 37, 38] 0 [(some 50, .bool true), (some 51, undef), (some 52, undef), (some 53, .bool true), (some 54, .bool true), (some 55, undef), (some 56, .bool true), (some 57, .bool true), (some 6, .bool true)] (by kernel_rfl) (by kernel_rfl) ?_
          (try simp only [putsOf, Act.put, List.setIfInBounds_toArray, List.set_cons_zero, List.set_cons_succ])
          refine wpAnyH_done (by kernel_rfl) ?_ _
          refine NoPanic.normal ?_
          (try simp only [Act.put, List.setIfInBounds_toArray, List.set_cons_zero, List.set_cons_succ])
          go_wp2
          go_ret
          exact ⟨rfl, hHeld.1⟩
        | true =>
          go_wp2_with fail
          refine wp_region_noPanic ?_
          refine wp_region_held_drew (S := (fun W => Below w.heap.size w W ∧ W.cell? ⟨w.heap.size, 0, none⟩ = some (.int .i64 u) ∧ W.cell? ⟨w.heap.size, 1, none⟩ = some (.int .i64 v))) (by kernel_rfl) ?_ (fun hHeld => ?_)
          · exact ⟨hBe.drew, z0, z1⟩
          refine wpAnyH_ready (rs := [0]) (by kernel_rfl) (by simp) (AllReadyH.cons rfl (fun K hK => ?_) AllReadyH.nil)
          go_simp
          refine (vecAlive_any _).mono ?_
          rintro e wx ⟨rfl, bb⟩
          (try go_wp2_with fail)
          refine hK.out _ _ ?_ (fun hHeld => ?_)
          · (try dsimp only)
            exact ⟨below_then hHeld.1 bb, (bb.cell (World.block_lt_of_cell? _ _ hHeld.2.1)).trans hHeld.2.1, (bb.cell (World.block_lt_of_cell? _ _ hHeld.2.2)).trans hHeld.2.2⟩
          clear hK K
          (try simp only [Act.put, List.setIfInBounds_toArray, List.set_cons_zero, List.set_cons_succ])
          refine wpAnyH_puts (by kernel_rfl) (fun _ _ _ _ _ h => h) (by assumption) [1, 2, 3] 35 [(some 21, .bool true), (some 22, .slice A n c), (some 23, .slice B m d)] (by kernel_rfl) (by kernel_rfl) ?_
          (try simp only [putsOf, Act.put, List.setIfInBounds_toArray, List.set_cons_zero, List.set_cons_succ])
          refine wpAnyH_one (by kernel_rfl) (fun _ _ _ _ _ h => h) (by assumption) 5 34 (some 25) ?_ _ (by rfl) (by rfl) (by kernel_rfl) (by rfl) ?_ ?_
          rotate_left 1
          · intro W hSw
            (try dsimp only at hSw)
            go_simp
            (try with_reducible rfl)
          (try simp only [Act.put, List.setIfInBounds_toArray, List.set_cons_zero, List.set_cons_succ])
          refine wpAnyH_puts (by kernel_rfl) (fun _ _ _ _ _ h => h) (by assumption) [7] 33 [(some 27, .bool false)] (by kernel_rfl) (by kernel_rfl) ?_
          (try simp only [putsOf, Act.put, List.setIfInBounds_toArray, List.set_cons_zero, List.set_cons_succ])
          refine wpAnyH_ready (rs := [4]) (by kernel_rfl) (by simp) (AllReadyH.cons rfl (fun K hK => ?_) AllReadyH.nil)
          go_simp
          refine (P4.out _ hHeld.1).mono ?_
          rintro e wx ⟨X1, d1, rfl, r1, bb⟩
          (try go_wp2_with fail)
          refine hK.out _ _ ?_ (fun hHeld => ?_)
          · (try dsimp only)
            exact ⟨below_then hHeld.1 bb, (bb.cell (World.block_lt_of_cell? _ _ hHeld.2.1)).trans hHeld.2.1, (bb.cell (World.block_lt_of_cell? _ _ hHeld.2.2)).trans hHeld.2.2⟩
          clear hK K
          (try simp only [Act.put, List.setIfInBounds_toArray, List.set_cons_zero, List.set_cons_succ])
          refine wpAnyH_ready (rs := [6]) (by kernel_rfl) (by simp) (AllReadyH.cons rfl (fun K hK => ?_) AllReadyH.nil)
          go_simp
          refine (is_bool (r := false) HJ1.out (vecHas_any _ _ _ J u v _ r1)).mono ?_
          rintro e wx ⟨rfl, bb⟩
          (try go_wp2_with fail)
          refine hK.out _ _ ?_ (fun hHeld => ?_)
          · (try dsimp only)
            exact ⟨below_then hHeld.1 bb, (bb.cell (World.block_lt_of_cell? _ _ hHeld.2.1)).trans hHeld.2.1, (bb.cell (World.block_lt_of_cell? _ _ hHeld.2.2)).trans hHeld.2.2⟩
          clear hK K
          (try simp only [Act.put, List.setIfInBounds_toArray, List.set_cons_zero, List.set_cons_succ])
          refine wpAnyH_puts (by kernel_rfl) (fun _ _ _ _ _ h => h) (by assumption) [8, 9, 10] 28 [(some 28, .bool false), (some 29, .bool false), (some 30, .bool false)] (by kernel_rfl) (by kernel_rfl) ?_
          (try simp only [putsOf, Act.put, List.setIfInBounds_toArray, List.set_cons_zero, List.set_cons_succ])
          refine wpAnyH_one (by kernel_rfl) (fun _ _ _ _ _ h => h) (by assumption) 11 27 (some 31) ?_ _ (by rfl) (by rfl) (by kernel_rfl) (by rfl) ?_ ?_
          rotate_left 1
          · intro W hSw
            (try dsimp only at hSw)
            go_simp
            (try with_reducible rfl)
          (try simp only [Act.put, List.setIfInBounds_toArray, List.set_cons_zero, List.set_cons_succ])
          refine wpAnyH_puts (by kernel_rfl) (fun _ _ _ _ _ h => h) (by assumption) [12, 13, 14, 15] 23 [(some 32, .bool true), (some 33, .bool true), (some 34, .slice A n c), (some 35, .slice B m d)] (by kernel_rfl) (by kernel_rfl) ?_
          (try simp only [putsOf, Act.put, List.setIfInBounds_toArray, List.set_cons_zero, List.set_cons_succ])
          refine wpAnyH_one (by kernel_rfl) (fun _ _ _ _ _ h => h) (by assumption) 17 22 (some 37) ?_ _ (by rfl) (by rfl) (by kernel_rfl) (by rfl) ?_ ?_
          rotate_left 1
          · intro W hSw
            (try dsimp only at hSw)
            go_simp
            (try with_reducible rfl)
          (try simp only [Act.put, List.setIfInBounds_toArray, List.set_cons_zero, List.set_cons_succ])
          refine wpAnyH_puts (by kernel_rfl) (fun _ _ _ _ _ h => h) (by assumption) [19] 21 [(some 39, .bool false)] (by kernel_rfl) (by kernel_rfl) ?_
          (try simp only [putsOf, Act.put, List.setIfInBounds_toArray, List.set_cons_zero, List.set_cons_succ])
          refine wpAnyH_ready (rs := [16]) (by kernel_rfl) (by simp) (AllReadyH.cons rfl (fun K hK => ?_) AllReadyH.nil)
          go_simp
          refine (P5.out _ hHeld.1).mono ?_
          rintro e wx ⟨X2, d2, rfl, r2, bb⟩
          (try go_wp2_with fail)
          refine hK.out _ _ ?_ (fun hHeld => ?_)
          · (try dsimp only)
            exact ⟨below_then hHeld.1 bb, (bb.cell (World.block_lt_of_cell? _ _ hHeld.2.1)).trans hHeld.2.1, (bb.cell (World.block_lt_of_cell? _ _ hHeld.2.2)).trans hHeld.2.2⟩
          clear hK K
          (try simp only [Act.put, List.setIfInBounds_toArray, List.set_cons_zero, List.set_cons_succ])
          refine wpAnyH_ready (rs := [18]) (by kernel_rfl) (by simp) (AllReadyH.cons rfl (fun K hK => ?_) AllReadyH.nil)
          go_simp
          refine (is_bool (r := false) HM1.out (vecHas_any _ _ _ M u v _ r2)).mono ?_
          rintro e wx ⟨rfl, bb⟩
          (try go_wp2_with fail)
          refine hK.out _ _ ?_ (fun hHeld => ?_)
          · (try dsimp only)
            exact ⟨below_then hHeld.1 bb, (bb.cell (World.block_lt_of_cell? _ _ hHeld.2.1)).trans hHeld.2.1, (bb.cell (World.block_lt_of_cell? _ _ hHeld.2.2)).trans hHeld.2.2⟩
          clear hK K
          (try simp only [Act.put, List.setIfInBounds_toArray, List.set_cons_zero, List.set_cons_succ])
          refine wpAnyH_puts (by kernel_rfl) (fun _ _ _ _ _ h => h) (by assumption) [20, 21, 22] 16 [(some 40, .bool false), (some 41, undef), (some 42, .bool false)] (by kernel_rfl) (by kernel_rfl) ?_
          (try simp only [putsOf, Act.put, List.setIfInBounds_toArray, List.set_cons_zero, List.set_cons_succ])
          refine wpAnyH_one (by kernel_rfl) (fun _ _ _ _ _ h => h) (by assumption) 23 15 (some 43) ?_ _ (by rfl) (by rfl) (by kernel_rfl) (by rfl) ?_ ?_
          rotate_left 1
          · intro W hSw
            (try dsimp only at hSw)
            go_simp
            (try with_reducible rfl)
          (try simp only [Act.put, List.setIfInBounds_toArray, List.set_cons_zero, List.set_cons_succ])
          refine wpAnyH_puts (by kernel_rfl) (fun _ _ _ _ _ h => h) (by assumption) [24, 25, 26, 27] 11 [(some 44, .bool true), (some 45, .bool true), (some 46, .slice A n c), (some 47, .slice B m d)] (by kernel_rfl) (by kernel_rfl) ?_
          (try simp only [putsOf, Act.put, List.setIfInBounds_toArray, List.set_cons_zero, List.set_cons_succ])
          refine wpAnyH_ready (rs := [28]) (by kernel_rfl) (by simp) (AllReadyH.cons rfl (fun K hK => ?_) AllReadyH.nil)
          go_simp
          refine (P3.out _ hHeld.1).mono ?_
          rintro e wx ⟨rfl, bb⟩
          (try go_wp2_with fail)
          refine hK.out _ _ ?_ (fun hHeld => ?_)
          · (try dsimp only)
            exact ⟨below_then hHeld.1 bb, (bb.cell (World.block_lt_of_cell? _ _ hHeld.2.1)).trans hHeld.2.1, (bb.cell (World.block_lt_of_cell? _ _ hHeld.2.2)).trans hHeld.2.2⟩
          clear hK K
          (try simp only [Act.put, List.setIfInBounds_toArray, List.set_cons_zero, List.set_cons_succ])
          refine wpAnyH_one (by kernel_rfl) (fun _ _ _ _ _ h => h) (by assumption) 29 9 (some 49) ?_ _ (by rfl) (by rfl) (by kernel_rfl) (by rfl) ?_ ?_
          rotate_left 1
          · intro W hSw
            (try dsimp only at hSw)
            go_simp
            (try with_reducible rfl)
          (try simp only [Act.put, List.setIfInBounds_toArray, List.set_cons_zero, List.set_cons_succ])
          refine wpAnyH_puts (by kernel_rfl) (fun _ _ _ _ _ h => h) (by assumption) [30, 31] 7 [(some 50, .bool false), (some 51, .bool false)] (by kernel_rfl) (by kernel_rfl) ?_
          (try simp only [putsOf, Act.put, List.setIfInBounds_toArray, List.set_cons_zero, List.set_cons_succ])
          refine wpAnyH_one (by kernel_rfl) (fun _ _ _ _ _ h => h) (by assumption) 32 6 (some 52) ?_ _ (by rfl) (by rfl) (by kernel_rfl) (by rfl) ?_ ?_
          rotate_left 1
          · intro W hSw
            (try dsimp only at hSw)
            go_simp
            (try with_reducible rfl)
          (try simp only [Act.put, List.setIfInBounds_toArray, List.set_cons_zero, List.set_cons_succ])
          refine wpAnyH_puts (by kernel_rfl) (fun _ _ _ _ _ h => h) (by assumption) [33, 34, 35, 36, 37, 38] 0 [(some 53, .bool true), (some 54, .bool true), (some 55, undef), (some 56, .bool true), (some 57, .bool true), (some 6, .bool true)] (by kernel_rfl) (by kernel_rfl) ?_
          (try simp only [putsOf, Act.put, List.setIfInBounds_toArray, List.set_cons_zero, List.set_cons_succ])
          refine wpAnyH_done (by kernel_rfl) ?_ _
          refine NoPanic.normal ?_
          (try simp only [Act.put, List.setIfInBounds_toArray, List.set_cons_zero, List.set_cons_succ])
          go_wp2
          go_ret
          exact ⟨rfl, hHeld.1⟩
      | true =>
        cases p with
        | false =>
          go_wp2_with fail
          refine wp_region_noPanic ?_
          refine wp_region_held_drew (S := (fun W => Below w.heap.size w W ∧ W.cell? ⟨w.heap.size, 0, none⟩ = some (.int .i64 u) ∧ W.cell? ⟨w.heap.size, 1, none⟩ = some (.int .i64 v))) (by kernel_rfl) ?_ (fun hHeld => ?_)
          · exact ⟨hBe.drew, z0, z1⟩
          refine wpAnyH_ready (rs := [0]) (by kernel_rfl) (by simp) (AllReadyH.cons rfl (fun K hK => ?_) AllReadyH.nil)
          go_simp
          refine (vecAlive_any _).mono ?_
          rintro e wx ⟨rfl, bb⟩
          (try go_wp2_with fail)
          refine hK.out _ _ ?_ (fun hHeld => ?_)
          · (try dsimp only)
            exact ⟨below_then hHeld.1 bb, (bb.cell (World.block_lt_of_cell? _ _ hHeld.2.1)).trans hHeld.2.1, (bb.cell (World.block_lt_of_cell? _ _ hHeld.2.2)).trans hHeld.2.2⟩
          clear hK K
          (try simp only [Act.put, List.setIfInBounds_toArray, List.set_cons_zero, List.set_cons_succ])
          refine wpAnyH_puts (by kernel_rfl) (fun _ _ _ _ _ h => h) (by assumption) [1, 2, 3] 35 [(some 21, .bool true), (some 22, .slice A n c), (some 23, .slice B m d)] (by kernel_rfl) (by kernel_rfl) ?_
          (try simp only [putsOf, Act.put, List.setIfInBounds_toArray, List.set_cons_zero, List.set_cons_succ])
          refine wpAnyH_one (by kernel_rfl) (fun _ _ _ _ _ h => h) (by assumption) 5 34 (some 25) ?_ _ (by rfl) (by rfl) (by kernel_rfl) (by rfl) ?_ ?_
          rotate_left 1
          · intro W hSw
            (try dsimp only at hSw)
            go_simp
            (try with_reducible rfl)
          (try simp only [Act.put, List.setIfInBounds_toArray, List.set_cons_zero, List.set_cons_succ])
          refine wpAnyH_puts (by kernel_rfl) (fun _ _ _ _ _ h => h) (by assumption) [7] 33 [(some 27, .bool false)] (by kernel_rfl) (by kernel_rfl) ?_
          (try simp only [putsOf, Act.put, List.setIfInBounds_toArray, List.set_cons_zero, List.set_cons_succ])
          refine wpAnyH_ready (rs := [4]) (by kernel_rfl) (by simp) (AllReadyH.cons rfl (fun K hK => ?_) AllReadyH.nil)
          go_simp
          refine (P4.out _ hHeld.1).mono ?_
          rintro e wx ⟨X1, d1, rfl, r1, bb⟩
          (try go_wp2_with fail)
          refine hK.out _ _ ?_ (fun hHeld => ?_)
          · (try dsimp only)
            exact ⟨below_then hHeld.1 bb, (bb.cell (World.block_lt_of_cell? _ _ hHeld.2.1)).trans hHeld.2.1, (bb.cell (World.block_lt_of_cell? _ _ hHeld.2.2)).trans hHeld.2.2⟩
          clear hK K
          (try simp only [Act.put, List.setIfInBounds_toArray, List.set_cons_zero, List.set_cons_succ])
          refine wpAnyH_ready (rs := [6]) (by kernel_rfl) (by simp) (AllReadyH.cons rfl (fun K hK => ?_) AllReadyH.nil)
          go_simp
          refine (is_bool (r := true) HJ1.out (vecHas_any _ _ _ J u v _ r1)).mono ?_
          rintro e wx ⟨rfl, bb⟩
          (try go_wp2_with fail)
          refine hK.out _ _ ?_ (fun hHeld => ?_)
          · (try dsimp only)
            exact ⟨below_then hHeld.1 bb, (bb.cell (World.block_lt_of_cell? _ _ hHeld.2.1)).trans hHeld.2.1, (bb.cell (World.block_lt_of_cell? _ _ hHeld.2.2)).trans hHeld.2.2⟩
          clear hK K
          (try simp only [Act.put, List.setIfInBounds_toArray, List.set_cons_zero, List.set_cons_succ])
          refine wpAnyH_puts (by kernel_rfl) (fun _ _ _ _ _ h => h) (by assumption) [8, 9, 10] 28 [(some 28, .bool false), (some 29, .bool true), (some 30, .bool true)] (by kernel_rfl) (by kernel_rfl) ?_
          (try simp only [putsOf, Act.put, List.setIfInBounds_toArray, List.set_cons_zero, List.set_cons_succ])
          refine wpAnyH_one (by kernel_rfl) (fun _ _ _ _ _ h => h) (by assumption) 11 27 (some 31) ?_ _ (by rfl) (by rfl) (by kernel_rfl) (by rfl) ?_ ?_
          rotate_left 1
          · intro W hSw
            (try dsimp only at hSw)
            go_simp
            (try with_reducible rfl)
          (try simp only [Act.put, List.setIfInBounds_toArray, List.set_cons_zero, List.set_cons_succ])
          refine wpAnyH_puts (by kernel_rfl) (fun _ _ _ _ _ h => h) (by assumption) [12, 13, 14, 15] 23 [(some 32, .bool true), (some 33, .bool true), (some 34, .slice A n c), (some 35, .slice B m d)] (by kernel_rfl) (by kernel_rfl) ?_
          (try simp only [putsOf, Act.put, List.setIfInBounds_toArray, List.set_cons_zero, List.set_cons_succ])
          refine wpAnyH_one (by kernel_rfl) (fun _ _ _ _ _ h => h) (by assumption) 17 22 (some 37) ?_ _ (by rfl) (by rfl) (by kernel_rfl) (by rfl) ?_ ?_
          rotate_left 1
          · intro W hSw
            (try dsimp only at hSw)
            go_simp
            (try with_reducible rfl)
          (try simp only [Act.put, List.setIfInBounds_toArray, List.set_cons_zero, List.set_cons_succ])
          refine wpAnyH_puts (by kernel_rfl) (fun _ _ _ _ _ h => h) (by assumption) [19] 21 [(some 39, .bool false)] (by kernel_rfl) (by kernel_rfl) ?_
          (try simp only [putsOf, Act.put, List.setIfInBounds_toArray, List.set_cons_zero, List.set_cons_succ])
          refine wpAnyH_ready (rs := [16]) (by kernel_rfl) (by simp) (AllReadyH.cons rfl (fun K hK => ?_) AllReadyH.nil)
          go_simp
          refine (P5.out _ hHeld.1).mono ?_
          rintro e wx ⟨X2, d2, rfl, r2, bb⟩
          (try go_wp2_with fail)
          refine hK.out _ _ ?_ (fun hHeld => ?_)
          · (try dsimp only)
            exact ⟨below_then hHeld.1 bb, (bb.cell (World.block_lt_of_cell? _ _ hHeld.2.1)).trans hHeld.2.1, (bb.cell (World.block_lt_of_cell? _ _ hHeld.2.2)).trans hHeld.2.2⟩
          clear hK K
          (try simp only [Act.put, List.setIfInBounds_toArray, List.set_cons_zero, List.set_cons_succ])
          refine wpAnyH_ready (rs := [18]) (by kernel_rfl) (by simp) (AllReadyH.cons rfl (fun K hK => ?_) AllReadyH.nil)
          go_simp
          refine (is_bool (r := false) HM1.out (vecHas_any _ _ _ M u v _ r2)).mono ?_
          rintro e wx ⟨rfl, bb⟩
          (try go_wp2_with fail)
          refine hK.out _ _ ?_ (fun hHeld => ?_)
          · (try dsimp only)
            exact ⟨below_then hHeld.1 bb, (bb.cell (World.block_lt_of_cell? _ _ hHeld.2.1)).trans hHeld.2.1, (bb.cell (World.block_lt_of_cell? _ _ hHeld.2.2)).trans hHeld.2.2⟩
          clear hK K
          (try simp only [Act.put, List.setIfInBounds_toArray, List.set_cons_zero, List.set_cons_succ])
          refine wpAnyH_puts (by kernel_rfl) (fun _ _ _ _ _ h => h) (by assumption) [20, 21, 22] 16 [(some 40, .bool false), (some 41, undef), (some 42, .bool false)] (by kernel_rfl) (by kernel_rfl) ?_
          (try simp only [putsOf, Act.put, List.setIfInBounds_toArray, List.set_cons_zero, List.set_cons_succ])
          refine wpAnyH_one (by kernel_rfl) (fun _ _ _ _ _ h => h) (by assumption) 23 15 (some 43) ?_ _ (by rfl) (by rfl) (by kernel_rfl) (by rfl) ?_ ?_
          rotate_left 1
          · intro W hSw
            (try dsimp only at hSw)
            go_simp
            (try with_reducible rfl)
          (try simp only [Act.put, List.setIfInBounds_toArray, List.set_cons_zero, List.set_cons_succ])
          refine wpAnyH_puts (by kernel_rfl) (fun _ _ _ _ _ h => h) (by assumption) [24, 25, 26, 27] 11 [(some 44, .bool true), (some 45, .bool true), (some 46, .slice A n c), (some 47, .slice B m d)] (by kernel_rfl) (by kernel_rfl) ?_
          (try simp only [putsOf, Act.put, List.setIfInBounds_toArray, List.set_cons_zero, List.set_cons_succ])
          refine wpAnyH_ready (rs := [28]) (by kernel_rfl) (by simp) (AllReadyH.cons rfl (fun K hK => ?_) AllReadyH.nil)
          go_simp
          refine (P3.out _ hHeld.1).mono ?_
          rintro e wx ⟨rfl, bb⟩
          (try go_wp2_with fail)
          refine hK.out _ _ ?_ (fun hHeld => ?_)
          · (try dsimp only)
            exact ⟨below_then hHeld.1 bb, (bb.cell (World.block_lt_of_cell? _ _ hHeld.2.1)).trans hHeld.2.1, (bb.cell (World.block_lt_of_cell? _ _ hHeld.2.2)).trans hHeld.2.2⟩
          clear hK K
          (try simp only [Act.put, List.setIfInBounds_toArray, List.set_cons_zero, List.set_cons_succ])
          refine wpAnyH_one (by kernel_rfl) (fun _ _ _ _ _ h => h) (by assumption) 29 9 (some 49) ?_ _ (by rfl) (by rfl) (by kernel_rfl) (by rfl) ?_ ?_
          rotate_left 1
          · intro W hSw
            (try dsimp only at hSw)
            go_simp
            (try with_reducible rfl)
          (try simp only [Act.put, List.setIfInBounds_toArray, List.set_cons_zero, List.set_cons_succ])
          refine wpAnyH_puts (by kernel_rfl) (fun _ _ _ _ _ h => h) (by assumption) [30, 31, 32, 33, 34, 35, 36, 37, 38] 0 [(some 50, .bool true), (some 51, undef), (some 52, undef), (some 53, .bool true), (some 54, .bool true), (some 55, undef), (some 56, .bool true), (some 57, .bool true), (some 6, .bool true)] (by kernel_rfl) (by kernel_rfl) ?_
          (try simp only [putsOf, Act.put, List.setIfInBounds_toArray, List.set_cons_zero, List.set_cons_succ])
          refine wpAnyH_done (by kernel_rfl) ?_ _
          refine NoPanic.normal ?_
          (try simp only [Act.put, List.setIfInBounds_toArray, List.set_cons_zero, List.set_cons_succ])
          go_wp2
          go_ret
          exact ⟨rfl, hHeld.1⟩
        | true =>
          go_wp2_with fail
          refine wp_region_noPanic ?_
          refine wp_region_held_drew (S := (fun W => Below w.heap.size w W ∧ W.cell? ⟨w.heap.size, 0, none⟩ = some (.int .i64 u) ∧ W.cell? ⟨w.heap.size, 1, none⟩ = some (.int .i64 v))) (by kernel_rfl) ?_ (fun hHeld => ?_)
          · exact ⟨hBe.drew, z0, z1⟩
          refine wpAnyH_ready (rs := [0]) (by kernel_rfl) (by simp) (AllReadyH.cons rfl (fun K hK => ?_) AllReadyH.nil)
          go_simp
          refine (vecAlive_any _).mono ?_
          rintro e wx ⟨rfl, bb⟩
          (try go_wp2_with fail)
          refine hK.out _ _ ?_ (fun hHeld => ?_)
          · (try dsimp only)
            exact ⟨below_then hHeld.1 bb, (bb.cell (World.block_lt_of_cell? _ _ hHeld.2.1)).trans hHeld.2.1, (bb.cell (World.block_lt_of_cell? _ _ hHeld.2.2)).trans hHeld.2.2⟩
          clear hK K
          (try simp only [Act.put, List.setIfInBounds_toArray, List.set_cons_zero, List.set_cons_succ])
          refine wpAnyH_puts (by kernel_rfl) (fun _ _ _ _ _ h => h) (by assumption) [1, 2, 3] 35 [(some 21, .bool true), (some 22, .slice A n c), (some 23, .slice B m d)] (by kernel_rfl) (by kernel_rfl) ?_
          (try simp only [putsOf, Act.put, List.setIfInBounds_toArray, List.set_cons_zero, List.set_cons_succ])
          refine wpAnyH_one (by kernel_rfl) (fun _ _ _ _ _ h => h) (by assumption) 5 34 (some 25) ?_ _ (by rfl) (by rfl) (by kernel_rfl) (by rfl) ?_ ?_
          rotate_left 1
          · intro W hSw
            (try dsimp only at hSw)
            go_simp
            (try with_reducible rfl)
          (try simp only [Act.put, List.setIfInBounds_toArray, List.set_cons_zero, List.set_cons_succ])
          refine wpAnyH_puts (by kernel_rfl) (fun _ _ _ _ _ h => h) (by assumption) [7] 33 [(some 27, .bool false)] (by kernel_rfl) (by kernel_rfl) ?_
          (try simp only [putsOf, Act.put, List.setIfInBounds_toArray, List.set_cons_zero, List.set_cons_succ])
          refine wpAnyH_ready (rs := [4]) (by kernel_rfl) (by simp) (AllReadyH.cons rfl (fun K hK => ?_) AllReadyH.nil)
          go_simp
          refine (P4.out _ hHeld.1).mono ?_
          rintro e wx ⟨X1, d1, rfl, r1, bb⟩
          (try go_wp2_with fail)
          refine hK.out _ _ ?_ (fun hHeld => ?_)
          · (try dsimp only)
            exact ⟨below_then hHeld.1 bb, (bb.cell (World.block_lt_of_cell? _ _ hHeld.2.1)).trans hHeld.2.1, (bb.cell (World.block_lt_of_cell? _ _ hHeld.2.2)).trans hHeld.2.2⟩
          clear hK K
          (try simp only [Act.put, List.setIfInBounds_toArray, List.set_cons_zero, List.set_cons_succ])
          refine wpAnyH_ready (rs := [6]) (by kernel_rfl) (by simp) (AllReadyH.cons rfl (fun K hK => ?_) AllReadyH.nil)
          go_simp
          refine (is_bool (r := true) HJ1.out (vecHas_any _ _ _ J u v _ r1)).mono ?_
          rintro e wx ⟨rfl, bb⟩
          (try go_wp2_with fail)
          refine hK.out _ _ ?_ (fun hHeld => ?_)
          · (try dsimp only)
            exact ⟨below_then hHeld.1 bb, (bb.cell (World.block_lt_of_cell? _ _ hHeld.2.1)).trans hHeld.2.1, (bb.cell (World.block_lt_of_cell? _ _ hHeld.2.2)).trans hHeld.2.2⟩
          clear hK K
          (try simp only [Act.put, List.setIfInBounds_toArray, List.set_cons_zero, List.set_cons_succ])
          refine wpAnyH_puts (by kernel_rfl) (fun _ _ _ _ _ h => h) (by assumption) [8, 9, 10] 28 [(some 28, .bool false), (some 29, .bool true), (some 30, .bool true)] (by kernel_rfl) (by kernel_rfl) ?_
          (try simp only [putsOf, Act.put, List.setIfInBounds_toArray, List.set_cons_zero, List.set_cons_succ])
          refine wpAnyH_one (by kernel_rfl) (fun _ _ _ _ _ h => h) (by assumption) 11 27 (some 31) ?_ _ (by rfl) (by rfl) (by kernel_rfl) (by rfl) ?_ ?_
          rotate_left 1
          · intro W hSw
            (try dsimp only at hSw)
            go_simp
            (try with_reducible rfl)
          (try simp only [Act.put, List.setIfInBounds_toArray, List.set_cons_zero, List.set_cons_succ])
          refine wpAnyH_puts (by kernel_rfl) (fun _ _ _ _ _ h => h) (by assumption) [12, 13, 14, 15] 23 [(some 32, .bool true), (some 33, .bool true), (some 34, .slice A n c), (some 35, .slice B m d)] (by kernel_rfl) (by kernel_rfl) ?_
          (try simp only [putsOf, Act.put, List.setIfInBounds_toArray, List.set_cons_zero, List.set_cons_succ])
          refine wpAnyH_one (by kernel_rfl) (fun _ _ _ _ _ h => h) (by assumption) 17 22 (some 37) ?_ _ (by rfl) (by rfl) (by kernel_rfl) (by rfl) ?_ ?_
          rotate_left 1
          · intro W hSw
            (try dsimp only at hSw)
            go_simp
            (try with_reducible rfl)
          (try simp only [Act.put, List.setIfInBounds_toArray, List.set_cons_zero, List.set_cons_succ])
          refine wpAnyH_puts (by kernel_rfl) (fun _ _ _ _ _ h => h) (by assumption) [19] 21 [(some 39, .bool false)] (by kernel_rfl) (by kernel_rfl) ?_
          (try simp only [putsOf, Act.put, List.setIfInBounds_toArray, List.set_cons_zero, List.set_cons_succ])
          refine wpAnyH_ready (rs := [16]) (by kernel_rfl) (by simp) (AllReadyH.cons rfl (fun K hK => ?_) AllReadyH.nil)
          go_simp
          refine (P5.out _ hHeld.1).mono ?_
          rintro e wx ⟨X2, d2, rfl, r2, bb⟩
          (try go_wp2_with fail)
          refine hK.out _ _ ?_ (fun hHeld => ?_)
          · (try dsimp only)
            exact ⟨below_then hHeld.1 bb, (bb.cell (World.block_lt_of_cell? _ _ hHeld.2.1)).trans hHeld.2.1, (bb.cell (World.block_lt_of_cell? _ _ hHeld.2.2)).trans hHeld.2.2⟩
          clear hK K
          (try simp only [Act.put, List.setIfInBounds_toArray, List.set_cons_zero, List.set_cons_succ])
          refine wpAnyH_ready (rs := [18]) (by kernel_rfl) (by simp) (AllReadyH.cons rfl (fun K hK => ?_) AllReadyH.nil)
          go_simp
          refine (is_bool (r := false) HM1.out (vecHas_any _ _ _ M u v _ r2)).mono ?_
          rintro e wx ⟨rfl, bb⟩
          (try go_wp2_with fail)
          refine hK.out _ _ ?_ (fun hHeld => ?_)
          · (try dsimp only)
            exact ⟨below_then hHeld.1 bb, (bb.cell (World.block_lt_of_cell? _ _ hHeld.2.1)).trans hHeld.2.1, (bb.cell (World.block_lt_of_cell? _ _ hHeld.2.2)).trans hHeld.2.2⟩
          clear hK K
          (try simp only [Act.put, List.setIfInBounds_toArray, List.set_cons_zero, List.set_cons_succ])
          refine wpAnyH_puts (by kernel_rfl) (fun _ _ _ _ _ h => h) (by assumption) [20, 21, 22] 16 [(some 40, .bool false), (some 41, undef), (some 42, .bool false)] (by kernel_rfl) (by kernel_rfl) ?_
          (try simp only [putsOf, Act.put, List.setIfInBounds_toArray, List.set_cons_zero, List.set_cons_succ])
          refine wpAnyH_one (by kernel_rfl) (fun _ _ _ _ _ h => h) (by assumption) 23 15 (some 43) ?_ _ (by rfl) (by rfl) (by kernel_rfl) (by rfl) ?_ ?_
          rotate_left 1
          · intro W hSw
            (try dsimp only at hSw)
            go_simp
            (try with_reducible rfl)
          (try simp only [Act.put, List.setIfInBounds_toArray, List.set_cons_zero, List.set_cons_succ])
          refine wpAnyH_puts (by kernel_rfl) (fun _ _ _ _ _ h => h) (by assumption) [24, 25, 26, 27] 11 [(some 44, .bool true), (some 45, .bool true), (some 46, .slice A n c), (some 47, .slice B m d)] (by kernel_rfl) (by kernel_rfl) ?_
          (try simp only [putsOf, Act.put, List.setIfInBounds_toArray, List.set_cons_zero, List.set_cons_succ])
          refine wpAnyH_ready (rs := [28]) (by kernel_rfl) (by simp) (AllReadyH.cons rfl (fun K hK => ?_) AllReadyH.nil)
          go_simp
          refine (P3.out _ hHeld.1).mono ?_
          rintro e wx ⟨rfl, bb⟩
          (try go_wp2_with fail)
          refine hK.out _ _ ?_ (fun hHeld => ?_)
          · (try dsimp only)
            exact ⟨below_then hHeld.1 bb, (bb.cell (World.block_lt_of_cell? _ _ hHeld.2.1)).trans hHeld.2.1, (bb.cell (World.block_lt_of_cell? _ _ hHeld.2.2)).trans hHeld.2.2⟩
          clear hK K
          (try simp only [Act.put, List.setIfInBounds_toArray, List.set_cons_zero, List.set_cons_succ])
          refine wpAnyH_one (by kernel_rfl) (fun _ _ _ _ _ h => h) (by assumption) 29 9 (some 49) ?_ _ (by rfl) (by rfl) (by kernel_rfl) (by rfl) ?_ ?_
          rotate_left 1
          · intro W hSw
            (try dsimp only at hSw)
            go_simp
            (try with_reducible rfl)
          (try simp only [Act.put, List.setIfInBounds_toArray, List.set_cons_zero, List.set_cons_succ])
          refine wpAnyH_puts (by kernel_rfl) (fun _ _ _ _ _ h => h) (by assumption) [30, 31] 7 [(some 50, .bool false), (some 51, .bool false)] (by kernel_rfl) (by kernel_rfl) ?_
          (try simp only [putsOf, Act.put, List.setIfInBounds_toArray, List.set_cons_zero, List.set_cons_succ])
          refine wpAnyH_one (by kernel_rfl) (fun _ _ _ _ _ h => h) (by assumption) 32 6 (some 52) ?_ _ (by rfl) (by rfl) (by kernel_rfl) (by rfl) ?_ ?_
          rotate_left 1
          · intro W hSw
            (try dsimp only at hSw)
            go_simp
            (try with_reducible rfl)
          (try simp only [Act.put, List.setIfInBounds_toArray, List.set_cons_zero, List.set_cons_succ])
          refine wpAnyH_puts (by kernel_rfl) (fun _ _ _ _ _ h => h) (by assumption) [33, 34, 35, 36, 37, 38] 0 [(some 53, .bool true), (some 54, .bool true), (some 55, undef), (some 56, .bool true), (some 57, .bool true), (some 6, .bool true)] (by kernel_rfl) (by kernel_rfl) ?_
          (try simp only [putsOf, Act.put, List.setIfInBounds_toArray, List.set_cons_zero, List.set_cons_succ])
          refine wpAnyH_done (by kernel_rfl) ?_ _
          refine NoPanic.normal ?_
          (try simp only [Act.put, List.setIfInBounds_toArray, List.set_cons_zero, List.set_cons_succ])
          go_wp2
          go_ret
          exact ⟨rfl, hHeld.1⟩
    | true =>
      cases y with
      | false =>
        obtain rfl : p = false := by have := HU1.out; revert this; cases p <;> simp
        go_wp2_with fail
        refine wp_region_noPanic ?_
        refine wp_region_held_drew (S := (fun W => Below w.heap.size w W ∧ W.cell? ⟨w.heap.size, 0, none⟩ = some (.int .i64 u) ∧ W.cell? ⟨w.heap.size, 1, none⟩ = some (.int .i64 v))) (by kernel_rfl) ?_ (fun hHeld => ?_)
        · exact ⟨hBe.drew, z0, z1⟩
        refine wpAnyH_ready (rs := [0]) (by kernel_rfl) (by simp) (AllReadyH.cons rfl (fun K hK => ?_) AllReadyH.nil)
        go_simp
        refine (vecAlive_any _).mono ?_
        rintro e wx ⟨rfl, bb⟩
        (try go_wp2_with fail)
        refine hK.out _ _ ?_ (fun hHeld => ?_)
        · (try dsimp only)
          exact ⟨below_then hHeld.1 bb, (bb.cell (World.block_lt_of_cell? _ _ hHeld.2.1)).trans hHeld.2.1, (bb.cell (World.block_lt_of_cell? _ _ hHeld.2.2)).trans hHeld.2.2⟩
        clear hK K
        (try simp only [Act.put, List.setIfInBounds_toArray, List.set_cons_zero, List.set_cons_succ])
        refine wpAnyH_puts (by kernel_rfl) (fun _ _ _ _ _ h => h) (by assumption) [1, 2, 3] 35 [(some 21, .bool true), (some 22, .slice A n c), (some 23, .slice B m d)] (by kernel_rfl) (by kernel_rfl) ?_
        (try simp only [putsOf, Act.put, List.setIfInBounds_toArray, List.set_cons_zero, List.set_cons_succ])
        refine wpAnyH_one (by kernel_rfl) (fun _ _ _ _ _ h => h) (by assumption) 5 34 (some 25) ?_ _ (by rfl) (by rfl) (by kernel_rfl) (by rfl) ?_ ?_
        rotate_left 1
        · intro W hSw
          (try dsimp only at hSw)
          go_simp
          (try with_reducible rfl)
        (try simp only [Act.put, List.setIfInBounds_toArray, List.set_cons_zero, List.set_cons_succ])
        refine wpAnyH_puts (by kernel_rfl) (fun _ _ _ _ _ h => h) (by assumption) [7] 33 [(some 27, .bool true)] (by kernel_rfl) (by kernel_rfl) ?_
        (try simp only [putsOf, Act.put, List.setIfInBounds_toArray, List.set_cons_zero, List.set_cons_succ])
        refine wpAnyH_ready (rs := [4]) (by kernel_rfl) (by simp) (AllReadyH.cons rfl (fun K hK => ?_) AllReadyH.nil)
        go_simp
        refine (P4.out _ hHeld.1).mono ?_
        rintro e wx ⟨X1, d1, rfl, r1, bb⟩
        (try go_wp2_with fail)
        refine hK.out _ _ ?_ (fun hHeld => ?_)
        · (try dsimp only)
          exact ⟨below_then hHeld.1 bb, (bb.cell (World.block_lt_of_cell? _ _ hHeld.2.1)).trans hHeld.2.1, (bb.cell (World.block_lt_of_cell? _ _ hHeld.2.2)).trans hHeld.2.2⟩
        clear hK K
        (try simp only [Act.put, List.setIfInBounds_toArray, List.set_cons_zero, List.set_cons_succ])
        refine wpAnyH_ready (rs := [6]) (by kernel_rfl) (by simp) (AllReadyH.cons rfl (fun K hK => ?_) AllReadyH.nil)
        go_simp
        refine (is_bool (r := true) HJ1.out (vecHas_any _ _ _ J u v _ r1)).mono ?_
        rintro e wx ⟨rfl, bb⟩
        (try go_wp2_with fail)
        refine hK.out _ _ ?_ (fun hHeld => ?_)
        · (try dsimp only)
          exact ⟨below_then hHeld.1 bb, (bb.cell (World.block_lt_of_cell? _ _ hHeld.2.1)).trans hHeld.2.1, (bb.cell (World.block_lt_of_cell? _ _ hHeld.2.2)).trans hHeld.2.2⟩
        clear hK K
        (try simp only [Act.put, List.setIfInBounds_toArray, List.set_cons_zero, List.set_cons_succ])
        refine wpAnyH_puts (by kernel_rfl) (fun _ _ _ _ _ h => h) (by assumption) [8, 9, 10] 28 [(some 28, .bool true), (some 29, undef), (some 30, .bool true)] (by kernel_rfl) (by kernel_rfl) ?_
        (try simp only [putsOf, Act.put, List.setIfInBounds_toArray, List.set_cons_zero, List.set_cons_succ])
        refine wpAnyH_one (by kernel_rfl) (fun _ _ _ _ _ h => h) (by assumption) 11 27 (some 31) ?_ _ (by rfl) (by rfl) (by kernel_rfl) (by rfl) ?_ ?_
        rotate_left 1
        · intro W hSw
          (try dsimp only at hSw)
          go_simp
          (try with_reducible rfl)
        (try simp only [Act.put, List.setIfInBounds_toArray, List.set_cons_zero, List.set_cons_succ])
        refine wpAnyH_puts (by kernel_rfl) (fun _ _ _ _ _ h => h) (by assumption) [12, 13, 14, 15] 23 [(some 32, .bool true), (some 33, .bool true), (some 34, .slice A n c), (some 35, .slice B m d)] (by kernel_rfl) (by kernel_rfl) ?_
        (try simp only [putsOf, Act.put, List.setIfInBounds_toArray, List.set_cons_zero, List.set_cons_succ])
        refine wpAnyH_one (by kernel_rfl) (fun _ _ _ _ _ h => h) (by assumption) 17 22 (some 37) ?_ _ (by rfl) (by rfl) (by kernel_rfl) (by rfl) ?_ ?_
        rotate_left 1
        · intro W hSw
          (try dsimp only at hSw)
          go_simp
          (try with_reducible rfl)
        (try simp only [Act.put, List.setIfInBounds_toArray, List.set_cons_zero, List.set_cons_succ])
        refine wpAnyH_puts (by kernel_rfl) (fun _ _ _ _ _ h => h) (by assumption) [19] 21 [(some 39, .bool true)] (by kernel_rfl) (by kernel_rfl) ?_
        (try simp only [putsOf, Act.put, List.setIfInBounds_toArray, List.set_cons_zero, List.set_cons_succ])
        refine wpAnyH_ready (rs := [16]) (by kernel_rfl) (by simp) (AllReadyH.cons rfl (fun K hK => ?_) AllReadyH.nil)
        go_simp
        refine (P5.out _ hHeld.1).mono ?_
        rintro e wx ⟨X2, d2, rfl, r2, bb⟩
        (try go_wp2_with fail)
        refine hK.out _ _ ?_ (fun hHeld => ?_)
        · (try dsimp only)
          exact ⟨below_then hHeld.1 bb, (bb.cell (World.block_lt_of_cell? _ _ hHeld.2.1)).trans hHeld.2.1, (bb.cell (World.block_lt_of_cell? _ _ hHeld.2.2)).trans hHeld.2.2⟩
        clear hK K
        (try simp only [Act.put, List.setIfInBounds_toArray, List.set_cons_zero, List.set_cons_succ])
        refine wpAnyH_ready (rs := [18]) (by kernel_rfl) (by simp) (AllReadyH.cons rfl (fun K hK => ?_) AllReadyH.nil)
        go_simp
        refine (is_bool (r := false) HM1.out (vecHas_any _ _ _ M u v _ r2)).mono ?_
        rintro e wx ⟨rfl, bb⟩
        (try go_wp2_with fail)
        refine hK.out _ _ ?_ (fun hHeld => ?_)
        · (try dsimp only)
          exact ⟨below_then hHeld.1 bb, (bb.cell (World.block_lt_of_cell? _ _ hHeld.2.1)).trans hHeld.2.1, (bb.cell (World.block_lt_of_cell? _ _ hHeld.2.2)).trans hHeld.2.2⟩
        clear hK K
        (try simp only [Act.put, List.setIfInBounds_toArray, List.set_cons_zero, List.set_cons_succ])
        refine wpAnyH_puts (by kernel_rfl) (fun _ _ _ _ _ h => h) (by assumption) [20, 21, 22] 16 [(some 40, .bool true), (some 41, .bool false), (some 42, .bool false)] (by kernel_rfl) (by kernel_rfl) ?_
        (try simp only [putsOf, Act.put, List.setIfInBounds_toArray, List.set_cons_zero, List.set_cons_succ])
        refine wpAnyH_one (by kernel_rfl) (fun _ _ _ _ _ h => h) (by assumption) 23 15 (some 43) ?_ _ (by rfl) (by rfl) (by kernel_rfl) (by rfl) ?_ ?_
        rotate_left 1
        · intro W hSw
          (try dsimp only at hSw)
          go_simp
          (try with_reducible rfl)
        (try simp only [Act.put, List.setIfInBounds_toArray, List.set_cons_zero, List.set_cons_succ])
        refine wpAnyH_puts (by kernel_rfl) (fun _ _ _ _ _ h => h) (by assumption) [24, 25, 26, 27] 11 [(some 44, .bool true), (some 45, .bool true), (some 46, .slice A n c), (some 47, .slice B m d)] (by kernel_rfl) (by kernel_rfl) ?_
        (try simp only [putsOf, Act.put, List.setIfInBounds_toArray, List.set_cons_zero, List.set_cons_succ])
        refine wpAnyH_ready (rs := [28]) (by kernel_rfl) (by simp) (AllReadyH.cons rfl (fun K hK => ?_) AllReadyH.nil)
        go_simp
        refine (P3.out _ hHeld.1).mono ?_
        rintro e wx ⟨rfl, bb⟩
        (try go_wp2_with fail)
        refine hK.out _ _ ?_ (fun hHeld => ?_)
        · (try dsimp only)
          exact ⟨below_then hHeld.1 bb, (bb.cell (World.block_lt_of_cell? _ _ hHeld.2.1)).trans hHeld.2.1, (bb.cell (World.block_lt_of_cell? _ _ hHeld.2.2)).trans hHeld.2.2⟩
        clear hK K
        (try simp only [Act.put, List.setIfInBounds_toArray, List.set_cons_zero, List.set_cons_succ])
        refine wpAnyH_one (by kernel_rfl) (fun _ _ _ _ _ h => h) (by assumption) 29 9 (some 49) ?_ _ (by rfl) (by rfl) (by kernel_rfl) (by rfl) ?_ ?_
        rotate_left 1
        · intro W hSw
          (try dsimp only at hSw)
          go_simp
          (try with_reducible rfl)
        (try simp only [Act.put, List.setIfInBounds_toArray, List.set_cons_zero, List.set_cons_succ])
        refine wpAnyH_puts (by kernel_rfl) (fun _ _ _ _ _ h => h) (by assumption) [30, 31, 32, 33, 34, 35, 36, 37, 38] 0 [(some 50, .bool true), (some 51, undef), (some 52, undef), (some 53, .bool true), (some 54, .bool true), (some 55, undef), (some 56, .bool true), (some 57, .bool true), (some 6, .bool true)] (by kernel_rfl) (by kernel_rfl) ?_
        (try simp only [putsOf, Act.put, List.setIfInBounds_toArray, List.set_cons_zero, List.set_cons_succ])
        refine wpAnyH_done (by kernel_rfl) ?_ _
        refine NoPanic.normal ?_
        (try simp only [Act.put, List.setIfInBounds_toArray, List.set_cons_zero, List.set_cons_succ])
        go_wp2
        go_ret
        exact ⟨rfl, hHeld.1⟩
      | true =>
        cases p with
        | false =>
          go_wp2_with fail
          refine wp_region_noPanic ?_
          refine wp_region_held_drew (S := (fun W => Below w.heap.size w W ∧ W.cell? ⟨w.heap.size, 0, none⟩ = some (.int .i64 u) ∧ W.cell? ⟨w.heap.size, 1, none⟩ = some (.int .i64 v))) (by kernel_rfl) ?_ (fun hHeld => ?_)
          · exact ⟨hBe.drew, z0, z1⟩
          refine wpAnyH_ready (rs := [0]) (by kernel_rfl) (by simp) (AllReadyH.cons rfl (fun K hK => ?_) AllReadyH.nil)
          go_simp
          refine (vecAlive_any _).mono ?_
          rintro e wx ⟨rfl, bb⟩
          (try go_wp2_with fail)
          refine hK.out _ _ ?_ (fun hHeld => ?_)
          · (try dsimp only)
            exact ⟨below_then hHeld.1 bb, (bb.cell (World.block_lt_of_cell? _ _ hHeld.2.1)).trans hHeld.2.1, (bb.cell (World.block_lt_of_cell? _ _ hHeld.2.2)).trans hHeld.2.2⟩
          clear hK K
          (try simp only [Act.put, List.setIfInBounds_toArray, List.set_cons_zero, List.set_cons_succ])
          refine wpAnyH_puts (by kernel_rfl) (fun _ _ _ _ _ h => h) (by assumption) [1, 2, 3] 35 [(some 21, .bool true), (some 22, .slice A n c), (some 23, .slice B m d)] (by kernel_rfl) (by kernel_rfl) ?_
          (try simp only [putsOf, Act.put, List.setIfInBounds_toArray, List.set_cons_zero, List.set_cons_succ])
          refine wpAnyH_one (by kernel_rfl) (fun _ _ _ _ _ h => h) (by assumption) 5 34 (some 25) ?_ _ (by rfl) (by rfl) (by kernel_rfl) (by rfl) ?_ ?_
          rotate_left 1
          · intro W hSw
            (try dsimp only at hSw)
            go_simp
            (try with_reducible rfl)
          (try simp only [Act.put, List.setIfInBounds_toArray, List.set_cons_zero, List.set_cons_succ])
          refine wpAnyH_puts (by kernel_rfl) (fun _ _ _ _ _ h => h) (by assumption) [7] 33 [(some 27, .bool true)] (by kernel_rfl) (by kernel_rfl) ?_
          (try simp only [putsOf, Act.put, List.setIfInBounds_toArray, List.set_cons_zero, List.set_cons_succ])
          refine wpAnyH_ready (rs := [4]) (by kernel_rfl) (by simp) (AllReadyH.cons rfl (fun K hK => ?_) AllReadyH.nil)
          go_simp
          refine (P4.out _ hHeld.1).mono ?_
          rintro e wx ⟨X1, d1, rfl, r1, bb⟩
          (try go_wp2_with fail)
          refine hK.out _ _ ?_ (fun hHeld => ?_)
          · (try dsimp only)
            exact ⟨below_then hHeld.1 bb, (bb.cell (World.block_lt_of_cell? _ _ hHeld.2.1)).trans hHeld.2.1, (bb.cell (World.block_lt_of_cell? _ _ hHeld.2.2)).trans hHeld.2.2⟩
          clear hK K
          (try simp only [Act.put, List.setIfInBounds_toArray, List.set_cons_zero, List.set_cons_succ])
          refine wpAnyH_ready (rs := [6]) (by kernel_rfl) (by simp) (AllReadyH.cons rfl (fun K hK => ?_) AllReadyH.nil)
          go_simp
          refine (is_bool (r := true) HJ1.out (vecHas_any _ _ _ J u v _ r1)).mono ?_
          rintro e wx ⟨rfl, bb⟩
          (try go_wp2_with fail)
          refine hK.out _ _ ?_ (fun hHeld => ?_)
          · (try dsimp only)
            exact ⟨below_then hHeld.1 bb, (bb.cell (World.block_lt_of_cell? _ _ hHeld.2.1)).trans hHeld.2.1, (bb.cell (World.block_lt_of_cell? _ _ hHeld.2.2)).trans hHeld.2.2⟩
          clear hK K
          (try simp only [Act.put, List.setIfInBounds_toArray, List.set_cons_zero, List.set_cons_succ])
          refine wpAnyH_puts (by kernel_rfl) (fun _ _ _ _ _ h => h) (by assumption) [8, 9, 10] 28 [(some 28, .bool true), (some 29, undef), (some 30, .bool true)] (by kernel_rfl) (by kernel_rfl) ?_
          (try simp only [putsOf, Act.put, List.setIfInBounds_toArray, List.set_cons_zero, List.set_cons_succ])
          refine wpAnyH_one (by kernel_rfl) (fun _ _ _ _ _ h => h) (by assumption) 11 27 (some 31) ?_ _ (by rfl) (by rfl) (by kernel_rfl) (by rfl) ?_ ?_
          rotate_left 1
          · intro W hSw
            (try dsimp only at hSw)
            go_simp
            (try with_reducible rfl)
          (try simp only [Act.put, List.setIfInBounds_toArray, List.set_cons_zero, List.set_cons_succ])
          refine wpAnyH_puts (by kernel_rfl) (fun _ _ _ _ _ h => h) (by assumption) [12, 13, 14, 15] 23 [(some 32, .bool true), (some 33, .bool true), (some 34, .slice A n c), (some 35, .slice B m d)] (by kernel_rfl) (by kernel_rfl) ?_
          (try simp only [putsOf, Act.put, List.setIfInBounds_toArray, List.set_cons_zero, List.set_cons_succ])
          refine wpAnyH_one (by kernel_rfl) (fun _ _ _ _ _ h => h) (by assumption) 17 22 (some 37) ?_ _ (by rfl) (by rfl) (by kernel_rfl) (by rfl) ?_ ?_
          rotate_left 1
          · intro W hSw
            (try dsimp only at hSw)
            go_simp
            (try with_reducible rfl)
          (try simp only [Act.put, List.setIfInBounds_toArray, List.set_cons_zero, List.set_cons_succ])
          refine wpAnyH_puts (by kernel_rfl) (fun _ _ _ _ _ h => h) (by assumption) [19] 21 [(some 39, .bool true)] (by kernel_rfl) (by kernel_rfl) ?_
          (try simp only [putsOf, Act.put, List.setIfInBounds_toArray, List.set_cons_zero, List.set_cons_succ])
          refine wpAnyH_ready (rs := [16]) (by kernel_rfl) (by simp) (AllReadyH.cons rfl (fun K hK => ?_) AllReadyH.nil)
          go_simp
          refine (P5.out _ hHeld.1).mono ?_
          rintro e wx ⟨X2, d2, rfl, r2, bb⟩
          (try go_wp2_with fail)
          refine hK.out _ _ ?_ (fun hHeld => ?_)
          · (try dsimp only)
            exact ⟨below_then hHeld.1 bb, (bb.cell (World.block_lt_of_cell? _ _ hHeld.2.1)).trans hHeld.2.1, (bb.cell (World.block_lt_of_cell? _ _ hHeld.2.2)).trans hHeld.2.2⟩
          clear hK K
          (try simp only [Act.put, List.setIfInBounds_toArray, List.set_cons_zero, List.set_cons_succ])
          refine wpAnyH_ready (rs := [18]) (by kernel_rfl) (by simp) (AllReadyH.cons rfl (fun K hK => ?_) AllReadyH.nil)
          go_simp
          refine (is_bool (r := true) HM1.out (vecHas_any _ _ _ M u v _ r2)).mono ?_
          rintro e wx ⟨rfl, bb⟩
          (try go_wp2_with fail)
          refine hK.out _ _ ?_ (fun hHeld => ?_)
          · (try dsimp only)
            exact ⟨below_then hHeld.1 bb, (bb.cell (World.block_lt_of_cell? _ _ hHeld.2.1)).trans hHeld.2.1, (bb.cell (World.block_lt_of_cell? _ _ hHeld.2.2)).trans hHeld.2.2⟩
          clear hK K
          (try simp only [Act.put, List.setIfInBounds_toArray, List.set_cons_zero, List.set_cons_succ])
          refine wpAnyH_puts (by kernel_rfl) (fun _ _ _ _ _ h => h) (by assumption) [20, 21, 22] 16 [(some 40, .bool true), (some 41, .bool true), (some 42, .bool true)] (by kernel_rfl) (by kernel_rfl) ?_
          (try simp only [putsOf, Act.put, List.setIfInBounds_toArray, List.set_cons_zero, List.set_cons_succ])
          refine wpAnyH_one (by kernel_rfl) (fun _ _ _ _ _ h => h) (by assumption) 23 15 (some 43) ?_ _ (by rfl) (by rfl) (by kernel_rfl) (by rfl) ?_ ?_
          rotate_left 1
          · intro W hSw
            (try dsimp only at hSw)
            go_simp
            (try with_reducible rfl)
          (try simp only [Act.put, List.setIfInBounds_toArray, List.set_cons_zero, List.set_cons_succ])
          refine wpAnyH_puts (by kernel_rfl) (fun _ _ _ _ _ h => h) (by assumption) [24, 25, 26, 27] 11 [(some 44, .bool true), (some 45, .bool true), (some 46, .slice A n c), (some 47, .slice B m d)] (by kernel_rfl) (by kernel_rfl) ?_
          (try simp only [putsOf, Act.put, List.setIfInBounds_toArray, List.set_cons_zero, List.set_cons_succ])
          refine wpAnyH_ready (rs := [28]) (by kernel_rfl) (by simp) (AllReadyH.cons rfl (fun K hK => ?_) AllReadyH.nil)
          go_simp
          refine (P3.out _ hHeld.1).mono ?_
          rintro e wx ⟨rfl, bb⟩
          (try go_wp2_with fail)
          refine hK.out _ _ ?_ (fun hHeld => ?_)
          · (try dsimp only)
            exact ⟨below_then hHeld.1 bb, (bb.cell (World.block_lt_of_cell? _ _ hHeld.2.1)).trans hHeld.2.1, (bb.cell (World.block_lt_of_cell? _ _ hHeld.2.2)).trans hHeld.2.2⟩
          clear hK K
          (try simp only [Act.put, List.setIfInBounds_toArray, List.set_cons_zero, List.set_cons_succ])
          refine wpAnyH_one (by kernel_rfl) (fun _ _ _ _ _ h => h) (by assumption) 29 9 (some 49) ?_ _ (by rfl) (by rfl) (by kernel_rfl) (by rfl) ?_ ?_
          rotate_left 1
          · intro W hSw
            (try dsimp only at hSw)
            go_simp
            (try with_reducible rfl)
          (try simp only [Act.put, List.setIfInBounds_toArray, List.set_cons_zero, List.set_cons_succ])
          refine wpAnyH_puts (by kernel_rfl) (fun _ _ _ _ _ h => h) (by assumption) [30, 31, 32, 33, 34, 35, 36, 37, 38] 0 [(some 50, .bool true), (some 51, undef), (some 52, undef), (some 53, .bool true), (some 54, .bool true), (some 55, undef), (some 56, .bool true), (some 57, .bool true), (some 6, .bool true)] (by kernel_rfl) (by kernel_rfl) ?_
          (try simp only [putsOf, Act.put, List.setIfInBounds_toArray, List.set_cons_zero, List.set_cons_succ])
          refine wpAnyH_done (by kernel_rfl) ?_ _
          refine NoPanic.normal ?_
          (try simp only [Act.put, List.setIfInBounds_toArray, List.set_cons_zero, List.set_cons_succ])
          go_wp2
          go_ret
          exact ⟨rfl, hHeld.1⟩
        | true =>
          go_wp2_with fail
          refine wp_region_noPanic ?_
          refine wp_region_held_drew (S := (fun W => Below w.heap.size w W ∧ W.cell? ⟨w.heap.size, 0, none⟩ = some (.int .i64 u) ∧ W.cell? ⟨w.heap.size, 1, none⟩ = some (.int .i64 v))) (by kernel_rfl) ?_ (fun hHeld => ?_)
          · exact ⟨hBe.drew, z0, z1⟩
          refine wpAnyH_ready (rs := [0]) (by kernel_rfl) (by simp) (AllReadyH.cons rfl (fun K hK => ?_) AllReadyH.nil)
          go_simp
          refine (vecAlive_any _).mono ?_
          rintro e wx ⟨rfl, bb⟩
          (try go_wp2_with fail)
          refine hK.out _ _ ?_ (fun hHeld => ?_)
          · (try dsimp only)
            exact ⟨below_then hHeld.1 bb, (bb.cell (World.block_lt_of_cell? _ _ hHeld.2.1)).trans hHeld.2.1, (bb.cell (World.block_lt_of_cell? _ _ hHeld.2.2)).trans hHeld.2.2⟩
          clear hK K
          (try simp only [Act.put, List.setIfInBounds_toArray, List.set_cons_zero, List.set_cons_succ])
          refine wpAnyH_puts (by kernel_rfl) (fun _ _ _ _ _ h => h) (by assumption) [1, 2, 3] 35 [(some 21, .bool true), (some 22, .slice A n c), (some 23, .slice B m d)] (by kernel_rfl) (by kernel_rfl) ?_
          (try simp only [putsOf, Act.put, List.setIfInBounds_toArray, List.set_cons_zero, List.set_cons_succ])
          refine wpAnyH_one (by kernel_rfl) (fun _ _ _ _ _ h => h) (by assumption) 5 34 (some 25) ?_ _ (by rfl) (by rfl) (by kernel_rfl) (by rfl) ?_ ?_
          rotate_left 1
          · intro W hSw
            (try dsimp only at hSw)
            go_simp
            (try with_reducible rfl)
          (try simp only [Act.put, List.setIfInBounds_toArray, List.set_cons_zero, List.set_cons_succ])
          refine wpAnyH_puts (by kernel_rfl) (fun _ _ _ _ _ h => h) (by assumption) [7] 33 [(some 27, .bool true)] (by kernel_rfl) (by kernel_rfl) ?_
          (try simp only [putsOf, Act.put, List.setIfInBounds_toArray, List.set_cons_zero, List.set_cons_succ])
          refine wpAnyH_ready (rs := [4]) (by kernel_rfl) (by simp) (AllReadyH.cons rfl (fun K hK => ?_) AllReadyH.nil)
          go_simp
          refine (P4.out _ hHeld.1).mono ?_
          rintro e wx ⟨X1, d1, rfl, r1, bb⟩
          (try go_wp2_with fail)
          refine hK.out _ _ ?_ (fun hHeld => ?_)
          · (try dsimp only)
            exact ⟨below_then hHeld.1 bb, (bb.cell (World.block_lt_of_cell? _ _ hHeld.2.1)).trans hHeld.2.1, (bb.cell (World.block_lt_of_cell? _ _ hHeld.2.2)).trans hHeld.2.2⟩
          clear hK K
          (try simp only [Act.put, List.setIfInBounds_toArray, List.set_cons_zero, List.set_cons_succ])
          refine wpAnyH_ready (rs := [6]) (by kernel_rfl) (by simp) (AllReadyH.cons rfl (fun K hK => ?_) AllReadyH.nil)
          go_simp
          refine (is_bool (r := true) HJ1.out (vecHas_any _ _ _ J u v _ r1)).mono ?_
          rintro e wx ⟨rfl, bb⟩
          (try go_wp2_with fail)
          refine hK.out _ _ ?_ (fun hHeld => ?_)
          · (try dsimp only)
            exact ⟨below_then hHeld.1 bb, (bb.cell (World.block_lt_of_cell? _ _ hHeld.2.1)).trans hHeld.2.1, (bb.cell (World.block_lt_of_cell? _ _ hHeld.2.2)).trans hHeld.2.2⟩
          clear hK K
          (try simp only [Act.put, List.setIfInBounds_toArray, List.set_cons_zero, List.set_cons_succ])
          refine wpAnyH_puts (by kernel_rfl) (fun _ _ _ _ _ h => h) (by assumption) [8, 9, 10] 28 [(some 28, .bool true), (some 29, undef), (some 30, .bool true)] (by kernel_rfl) (by kernel_rfl) ?_
          (try simp only [putsOf, Act.put, List.setIfInBounds_toArray, List.set_cons_zero, List.set_cons_succ])
          refine wpAnyH_one (by kernel_rfl) (fun _ _ _ _ _ h => h) (by assumption) 11 27 (some 31) ?_ _ (by rfl) (by rfl) (by kernel_rfl) (by rfl) ?_ ?_
          rotate_left 1
          · intro W hSw
            (try dsimp only at hSw)
            go_simp
            (try with_reducible rfl)
          (try simp only [Act.put, List.setIfInBounds_toArray, List.set_cons_zero, List.set_cons_succ])
          refine wpAnyH_puts (by kernel_rfl) (fun _ _ _ _ _ h => h) (by assumption) [12, 13, 14, 15] 23 [(some 32, .bool true), (some 33, .bool true), (some 34, .slice A n c), (some 35, .slice B m d)] (by kernel_rfl) (by kernel_rfl) ?_
          (try simp only [putsOf, Act.put, List.setIfInBounds_toArray, List.set_cons_zero, List.set_cons_succ])
          refine wpAnyH_one (by kernel_rfl) (fun _ _ _ _ _ h => h) (by assumption) 17 22 (some 37) ?_ _ (by rfl) (by rfl) (by kernel_rfl) (by rfl) ?_ ?_
          rotate_left 1
          · intro W hSw
            (try dsimp only at hSw)
            go_simp
            (try with_reducible rfl)
          (try simp only [Act.put, List.setIfInBounds_toArray, List.set_cons_zero, List.set_cons_succ])
          refine wpAnyH_puts (by kernel_rfl) (fun _ _ _ _ _ h => h) (by assumption) [19] 21 [(some 39, .bool true)] (by kernel_rfl) (by kernel_rfl) ?_
          (try simp only [putsOf, Act.put, List.setIfInBounds_toArray, List.set_cons_zero, List.set_cons_succ])
          refine wpAnyH_ready (rs := [16]) (by kernel_rfl) (by simp) (AllReadyH.cons rfl (fun K hK => ?_) AllReadyH.nil)
          go_simp
          refine (P5.out _ hHeld.1).mono ?_
          rintro e wx ⟨X2, d2, rfl, r2, bb⟩
          (try go_wp2_with fail)
          refine hK.out _ _ ?_ (fun hHeld => ?_)
          · (try dsimp only)
            exact ⟨below_then hHeld.1 bb, (bb.cell (World.block_lt_of_cell? _ _ hHeld.2.1)).trans hHeld.2.1, (bb.cell (World.block_lt_of_cell? _ _ hHeld.2.2)).trans hHeld.2.2⟩
          clear hK K
          (try simp only [Act.put, List.setIfInBounds_toArray, List.set_cons_zero, List.set_cons_succ])
          refine wpAnyH_ready (rs := [18]) (by kernel_rfl) (by simp) (AllReadyH.cons rfl (fun K hK => ?_) AllReadyH.nil)
          go_simp
          refine (is_bool (r := true) HM1.out (vecHas_any _ _ _ M u v _ r2)).mono ?_
          rintro e wx ⟨rfl, bb⟩
          (try go_wp2_with fail)
          refine hK.out _ _ ?_ (fun hHeld => ?_)
          · (try dsimp only)
            exact ⟨below_then hHeld.1 bb, (bb.cell (World.block_lt_of_cell? _ _ hHeld.2.1)).trans hHeld.2.1, (bb.cell (World.block_lt_of_cell? _ _ hHeld.2.2)).trans hHeld.2.2⟩
          clear hK K
          (try simp only [Act.put, List.setIfInBounds_toArray, List.set_cons_zero, List.set_cons_succ])
          refine wpAnyH_puts (by kernel_rfl) (fun _ _ _ _ _ h => h) (by assumption) [20, 21, 22] 16 [(some 40, .bool true), (some 41, .bool true), (some 42, .bool true)] (by kernel_rfl) (by kernel_rfl) ?_
          (try simp only [putsOf, Act.put, List.setIfInBounds_toArray, List.set_cons_zero, List.set_cons_succ])
          refine wpAnyH_one (by kernel_rfl) (fun _ _ _ _ _ h => h) (by assumption) 23 15 (some 43) ?_ _ (by rfl) (by rfl) (by kernel_rfl) (by rfl) ?_ ?_
          rotate_left 1
          · intro W hSw
            (try dsimp only at hSw)
            go_simp
            (try with_reducible rfl)
          (try simp only [Act.put, List.setIfInBounds_toArray, List.set_cons_zero, List.set_cons_succ])
          refine wpAnyH_puts (by kernel_rfl) (fun _ _ _ _ _ h => h) (by assumption) [24, 25, 26, 27] 11 [(some 44, .bool true), (some 45, .bool true), (some 46, .slice A n c), (some 47, .slice B m d)] (by kernel_rfl) (by kernel_rfl) ?_
          (try simp only [putsOf, Act.put, List.setIfInBounds_toArray, List.set_cons_zero, List.set_cons_succ])
          refine wpAnyH_ready (rs := [28]) (by kernel_rfl) (by simp) (AllReadyH.cons rfl (fun K hK => ?_) AllReadyH.nil)
          go_simp
          refine (P3.out _ hHeld.1).mono ?_
          rintro e wx ⟨rfl, bb⟩
          (try go_wp2_with fail)
          refine hK.out _ _ ?_ (fun hHeld => ?_)
          · (try dsimp only)
            exact ⟨below_then hHeld.1 bb, (bb.cell (World.block_lt_of_cell? _ _ hHeld.2.1)).trans hHeld.2.1, (bb.cell (World.block_lt_of_cell? _ _ hHeld.2.2)).trans hHeld.2.2⟩
          clear hK K
          (try simp only [Act.put, List.setIfInBounds_toArray, List.set_cons_zero, List.set_cons_succ])
          refine wpAnyH_one (by kernel_rfl) (fun _ _ _ _ _ h => h) (by assumption) 29 9 (some 49) ?_ _ (by rfl) (by rfl) (by kernel_rfl) (by rfl) ?_ ?_
          rotate_left 1
          · intro W hSw
            (try dsimp only at hSw)
            go_simp
            (try with_reducible rfl)
          (try simp only [Act.put, List.setIfInBounds_toArray, List.set_cons_zero, List.set_cons_succ])
          refine wpAnyH_puts (by kernel_rfl) (fun _ _ _ _ _ h => h) (by assumption) [30, 31] 7 [(some 50, .bool false), (some 51, .bool true)] (by kernel_rfl) (by kernel_rfl) ?_
          (try simp only [putsOf, Act.put, List.setIfInBounds_toArray, List.set_cons_zero, List.set_cons_succ])
          refine wpAnyH_one (by kernel_rfl) (fun _ _ _ _ _ h => h) (by assumption) 32 6 (some 52) ?_ _ (by rfl) (by rfl) (by kernel_rfl) (by rfl) ?_ ?_
          rotate_left 1
          · intro W hSw
            (try dsimp only at hSw)
            go_simp
            (try with_reducible rfl)
          (try simp only [Act.put, List.setIfInBounds_toArray, List.set_cons_zero, List.set_cons_succ])
          refine wpAnyH_puts (by kernel_rfl) (fun _ _ _ _ _ h => h) (by assumption) [33, 34, 35, 36, 37, 38] 0 [(some 53, .bool false), (some 54, .bool false), (some 55, .bool true), (some 56, .bool true), (some 57, .bool true), (some 6, .bool true)] (by kernel_rfl) (by kernel_rfl) ?_
          (try simp only [putsOf, Act.put, List.setIfInBounds_toArray, List.set_cons_zero, List.set_cons_succ])
          refine wpAnyH_done (by kernel_rfl) ?_ _
          refine NoPanic.normal ?_
          (try simp only [Act.put, List.setIfInBounds_toArray, List.set_cons_zero, List.set_cons_succ])
          go_wp2
          go_ret
          exact ⟨rfl, hHeld.1⟩

theorem contract (H : Type) (enc : TypeId × Value → H) (W : World) (base : Nat) (args : Array Value) (ds gs : List (DataW H)) (before : List MemPlace)
    (hval : ∀ (j : Nat) t v, Try.f8.params[j]? = some t → args[j]? = some v → Value.okWide Try.prog W .any base t v)
    (hW : DataW.Whole enc Try.prog Try.f8.params.toList Rows.vectorDotsSpec.vars false W args.toList ds gs before) :
    Calls Try.prog 8 args W fun e W' => ∃ v, e = .returned v ∧ Rows.vectorDotsSpec.post enc Try.prog Try.f8 false true false false W args v W' := by
  have hlt : ∀ x ∈ before, x.block < W.heap.size := fun x hx => by simpa using hW.lt x hx
  refine law_step 4 Try.laid_ (by kernel_rfl) rfl Try.underlying4 rfl hW (fun xs hx => ?_) ?_
  · match xs, hx with
    | [d0, d1, d2], _ => rfl
  · obtain ⟨p, q, hA0, hV, rfl, _, _⟩ := hW
    have hA : DataW.TrodAll enc Try.prog W 0 (fun _ => true) true Try.f8.params.toList args.toList ds p := hA0
    rw [Try.params8] at hA hval
    obtain ⟨v0, vs0, d0, ds0, p0, q0, e0, rfl, rfl, h0, r0⟩ := trodAll_cons hA
    obtain ⟨v1, vs1, d1, ds1, p1, q1, e1, rfl, rfl, h1, r1⟩ := trodAll_cons r0
    obtain ⟨v2, vs2, d2, ds2, p2, q2, e2, rfl, rfl, h2, r2⟩ := trodAll_cons r1
    obtain ⟨rfl, rfl, rfl⟩ := trodAll_nil r2
    subst e2
    subst e1
    obtain rfl : args = #[v0, v1, v2] := by cases args; simp_all
    clear e0 hA0
    obtain ⟨A0, n0, c0, a, rfl, rd0, wf0⟩ := open_vec (hval 0 23 v0 rfl rfl) h0 (fun x hx => hlt x (by simp [hx]))
    obtain ⟨A1, n1, c1, b, rfl, rd1, wf1⟩ := open_vec (hval 1 23 v1 rfl rfl) h1 (fun x hx => hlt x (by simp [hx]))
    obtain ⟨x2, y2, rfl, wx2, wy2⟩ := open_dot (hval 2 25 v2 rfl rfl) h2
    exact walk A0 A1 n0 c0 n1 c1 a b x2 y2 W rd0 rd1

set_option maxRecDepth 100000 in
theorem lifted (os : Os) (started : os.Started) (H : Type) (enc : TypeId × Value → H) :
    ReturnsInHanded {} Try.checked os 8 .any (Rows.vectorDotsSpec.pre6 enc Try.prog Try.f8 Rows.vectorDotsRow.domain false) (Rows.vectorDotsSpec.post enc Try.prog Try.f8 false true false false) := by
  refine returnsInHanded_of_change (C := Try.checked) Try.own_ started (by kernel_rfl) Try.func8
    (ChangeSpec.witness6 (enc := enc) (C := Try.checked) false ⟨#[], #[.slice none 0 0, .slice none 0 0, .agg #[.int .i64 0, .int .i64 0]], []⟩ 8 (by kernel_rfl) (by kernel_rfl) (by kernel_rfl) (by kernel_rfl)) ?_
  intro W base args ds gs before hval hW _ _
  exact contract H enc W base args ds gs before hval hW

theorem holds : Rows.VectorDotsSaid :=
  OpenClaim.holds_of_wide 8 Try.f8 rfl rfl rfl rfl rfl rfl rfl ⟨rfl, rfl, rfl, rfl, rfl⟩ rfl rfl rfl rfl rfl (by kernel_rfl) Try.func8 (by kernel_rfl)
    (of_decide_eq_true (by kernel_rfl)) (by unfold Func.isWrapper; first | (rw [if_pos (by decide +kernel)]; kernel_rfl) | (rw [if_neg (by decide +kernel)]; exact ⟨rfl, rfl⟩))
    (fun os started H enc _ => lifted os started H enc)
end Go.Proofs.Ytefbgbciaiedeaa.vectorDots
