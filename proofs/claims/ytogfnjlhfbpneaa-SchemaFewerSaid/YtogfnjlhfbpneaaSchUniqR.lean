/- Layer 11: what is amiss in a unique column: the document. Written by schref.py. -/
import Derived.Test.YtogfnjlhfbpneaaSchUniq
namespace Go.Proofs.Ytogfnjlhfbpneaa
set_option maxRecDepth 100000
open Go.RowKit

set_option maxHeartbeats 6400000 in
theorem refUniqE_any (t : T6) (i : Nat) (w : World) (h : t.Reads w) (hi : i < t.nu) :
    Calls Try.prog 57 #[t.agg, .int .i64 i] w fun e w' => e = .returned (.int .i64 (uniErr t.cols t.uni i)) ∧ Below w.heap.size w w' := by
  obtain ⟨w1, hw1⟩ : ∃ w1, w1 = w.alloc (tabBox t) := ⟨_, rfl⟩
  have HW1 := Lib.hid hw1
  have HB1 : Hid (Below w.heap.size w w1) := by rw [hw1]; exact below_new (Below.refl _ _) _
  have R1 : Hid (w1.heap[w.heap.size]? = some (tabBox t)) := by rw [hw1]; exact heap_alloc_new _ _
  have HU := Lib.hid (h.uni.below HB1.out); have HC := Lib.hid (h.cols.below HB1.out); have HCL := Lib.hid h.cols.len
  obtain ⟨b, o, z, hua, hb, hz, hld⟩ := HU.out.int hi
  have hule := h.uni.le
  have HUA := Lib.hid hua; have HLD := Lib.hid hld
  obtain ⟨bd, hbd⟩ : ∃ bd, Hid (bindB t.nc z = bd) := ⟨_, rfl⟩
  obtain ⟨rg, hrg⟩ : ∃ rg, Hid (regB (colOf t.cols z) = rg) := ⟨_, rfl⟩
  obtain ⟨E, hEE⟩ : ∃ E, Hid (uniErr t.cols t.uni i = E) := ⟨_, rfl⟩
  have hE : Hid (E = if bd = false then 4 else if 0 < i ∧ z ≤ t.uni.getD (i - 1) 0 then 1 else if rg = false then 6 else 0) := by
    show _ = _
    rw [← hEE.out, uniErr, getD_of hz, HCL.out, hbd.out, hrg.out]
  rw [hEE.out]
  have CB : Hid (∀ W, Below w1.heap.size w1 W → Calls Try.prog 61 #[.agg #[.string t.nm, .slice t.ca t.nc t.cc, .slice (some ⟨b, o, none⟩) t.nu t.uc, .slice t.ha t.nh t.hc, .slice t.fa t.nf t.fc, .slice t.sa t.ns t.sc], .int .i64 z] W fun e w' => e = .returned (.tuple #[.bool bd, .bool (bd && rg)]) ∧ Below W.heap.size W w') := fun W hW => by rw [← hbd.out, ← hrg.out, ← hua]; exact number_any t z W (HC.out.below hW)
  have y1 : (i : Int) < (t.nu : Int) := by omega
  have y0 : (0 : Int) ≤ (i : Int) := by omega
  have q1 := Below.refl w1.heap.size w1
  have q2 : w1.cell? ⟨w.heap.size, 0, none⟩ = some (.string t.nm) ∧ w1.cell? ⟨w.heap.size, 1, none⟩ = some (.slice t.ca t.nc t.cc) ∧ w1.cell? ⟨w.heap.size, 2, none⟩ = some (.slice (some ⟨b, o, none⟩) t.nu t.uc) ∧ w1.cell? ⟨w.heap.size, 3, none⟩ = some (.slice t.ha t.nh t.hc) ∧ w1.cell? ⟨w.heap.size, 4, none⟩ = some (.slice t.fa t.nf t.fc) ∧ w1.cell? ⟨w.heap.size, 5, none⟩ = some (.slice t.sa t.ns t.sc) ∧ w1.cell? ⟨b, o + i, none⟩ = some (.int .i64 z) := by
    obtain ⟨c0, c1, c2, c3, c4, c5⟩ := tab_row R1.out
    rw [hua] at c2
    exact ⟨c0, c1, c2, c3, c4, c5, hld w1 (Below.refl _ _)⟩
  obtain ⟨c0, c1, c2, c3, c4, c5, u0⟩ := q2
  clear h hw1 hEE hrg hua hb hz hld
  go_enter Try.func57, Try.ntmps57
  go_upto_region 1 with fail
  rw [show w.alloc (tabBox t) = w1 from HW1.out.symm]
  clear HW1
  have hS0 : Below w1.heap.size w1 w1.drew ∧ w1.drew.cell? ⟨w.heap.size, 0, none⟩ = some (.string t.nm) ∧ w1.drew.cell? ⟨w.heap.size, 1, none⟩ = some (.slice t.ca t.nc t.cc) ∧ w1.drew.cell? ⟨w.heap.size, 2, none⟩ = some (.slice (some ⟨b, o, none⟩) t.nu t.uc) ∧ w1.drew.cell? ⟨w.heap.size, 3, none⟩ = some (.slice t.ha t.nh t.hc) ∧ w1.drew.cell? ⟨w.heap.size, 4, none⟩ = some (.slice t.fa t.nf t.fc) ∧ w1.drew.cell? ⟨w.heap.size, 5, none⟩ = some (.slice t.sa t.ns t.sc) ∧ w1.drew.cell? ⟨b, o + i, none⟩ = some (.int .i64 z) := ⟨q1.drew, c0, c1, c2, c3, c4, c5, u0⟩
  obtain ⟨k0, k1, k2, k3, k4, k5, k6, k7⟩ := hS0
  clear q1 c0 c1 c2 c3 c4 c5 u0
  go_region_held3 (fun W => Below w1.heap.size w1 W ∧ W.cell? ⟨w.heap.size, 0, none⟩ = some (.string t.nm) ∧ W.cell? ⟨w.heap.size, 1, none⟩ = some (.slice t.ca t.nc t.cc) ∧ W.cell? ⟨w.heap.size, 2, none⟩ = some (.slice (some ⟨b, o, none⟩) t.nu t.uc) ∧ W.cell? ⟨w.heap.size, 3, none⟩ = some (.slice t.ha t.nh t.hc) ∧ W.cell? ⟨w.heap.size, 4, none⟩ = some (.slice t.fa t.nf t.fc) ∧ W.cell? ⟨w.heap.size, 5, none⟩ = some (.slice t.sa t.ns t.sc) ∧ W.cell? ⟨b, o + i, none⟩ = some (.int .i64 z))
    (first
      | (go_split_ands
         refine ⟨?_, ?_, ?_, ?_, ?_, ?_, ?_, ?_⟩
         · exact below_then (by assumption) bb
         all_goals exact (bb.cell (World.block_lt_of_cell? _ _ (by assumption))).trans (by assumption))
      | (go_split_ands
         refine ⟨?_, ?_, ?_, ?_, ?_, ?_, ?_, ?_⟩
         · exact Below.drew (by assumption)
         all_goals (show World.cell? _ _ = _; assumption))
      | (go_split_ands
         refine ⟨?_, ?_, ?_, ?_, ?_, ?_, ?_, ?_⟩
         all_goals assumption))
    (first
      | (go_at_call 61; refine (CB.out _ (by go_split_ands; assumption)).mono ?_; rintro e wx ⟨rfl, bb⟩))
  go_split_ands
  have HBx := Lib.hid (HB1.out.trans (show Below w.heap.size w1 wx from (show Below w1.heap.size w1 wx by assumption).mono HB1.out.size))
  have B1x := Lib.hid (show Below w1.heap.size w1 wx by assumption)
  have Rx := Lib.hid (row_below (row_drew R1.out) bb)
  have ux := HLD.out wx B1x.out
  clear bb k0 k1 k2 k3 k4 k5 k6 k7
  obtain ⟨c0, c1, c2, c3, c4, c5⟩ := tab_row Rx.out
  rw [HUA.out] at c2
  cases bd with
  | false =>
    go_wp2_with fail
    go_ret
    exact ⟨ret_int (by rw [hE.out]; simp), HBx.out⟩
  | true =>
    by_cases hi0 : 0 < i
    · obtain ⟨b', o', y, hua', hb', hy, hld'⟩ := HU.out.int (show i - 1 < t.nu by omega)
      have ea := HUA.out.symm.trans hua'
      cases ea
      have e0 := hld' wx B1x.out
      have y2 : (0 : Int) < (i : Int) := by omega
      have y3 : IntKind.i64.wrap ((i : Int) - 1) = (i : Int) - 1 := wrap_is (by omega)
      have y4 : ((i : Int) - 1).toNat = i - 1 := by omega
      have y5 : (0 : Int) ≤ (i : Int) - 1 := by omega
      have y6 : (i : Int) - 1 < (t.nu : Int) := by omega
      have y7 : (1 : Int) ≤ (i : Int) := by omega
      have y8 : decide ((0 : Int) < (i : Int)) = true := decide_eq_true y2
      have y9 : decide (0 < i) = true := decide_eq_true hi0
      have y10 : 1 ≤ i := hi0
      have hE2 : Hid (E = if z ≤ y then 1 else if rg = false then 6 else 0) := by
        show _ = _
        rw [hE.out, getD_of hy]; simp [hi0]
      clear hld' hb' hua' hy hE
      by_cases hzy : z ≤ y
      · have hE3 : Hid (E = 1) := by show _ = _; rw [hE2.out, if_pos hzy]
        go_wp2_with fail
        refine wp_region_quiet_lit (by kernel_rfl) (by kernel_rfl) ?_
        repeat (with_reducible refine wpQuiet_step (fun K hK => ?_); go_simp; first | (with_reducible refine hK _ ?_; clear hK K) | (apply Exists.intro; with_reducible refine ⟨fun _ => ?_, hK _ ?_⟩; (fail); clear hK K))
        with_reducible refine wpQuiet_nil ?_
        intro _ hw'
        obtain ⟨nq, hw''⟩ := hw'
        subst hw''
        go_wp2_with fail
        go_ret
        exact ⟨ret_int hE3.out.symm, below_drewN HBx.out nq⟩
      · have hE3 : Hid (E = if rg = false then 6 else 0) := by show _ = _; rw [hE2.out, if_neg hzy]
        go_wp2_with fail
        refine wp_region_quiet_lit (by kernel_rfl) (by kernel_rfl) ?_
        repeat (with_reducible refine wpQuiet_step (fun K hK => ?_); go_simp; first | (with_reducible refine hK _ ?_; clear hK K) | (apply Exists.intro; with_reducible refine ⟨fun _ => ?_, hK _ ?_⟩; (fail); clear hK K))
        with_reducible refine wpQuiet_nil ?_
        intro _ hw'
        obtain ⟨nq, hw''⟩ := hw'
        subst hw''
        cases rg with
        | false =>
          go_wp2_with fail
          go_ret
          exact ⟨ret_int (by rw [hE3.out]; rfl), below_drewN HBx.out nq⟩
        | true =>
          go_wp2_with fail
          go_ret
          exact ⟨ret_int (by rw [hE3.out]; rfl), below_drewN HBx.out nq⟩
    · obtain rfl : i = 0 := by omega
      have hE3 : Hid (E = if rg = false then 6 else 0) := by show _ = _; rw [hE.out]; simp
      clear hi0 hE y0 y1
      go_wp2_with fail
      refine wp_region_quiet_lit (by kernel_rfl) (by kernel_rfl) ?_
      repeat (with_reducible refine wpQuiet_step (fun K hK => ?_); go_simp; first | (with_reducible refine hK _ ?_; clear hK K) | (apply Exists.intro; with_reducible refine ⟨fun _ => ?_, hK _ ?_⟩; (fail); clear hK K))
      with_reducible refine wpQuiet_nil ?_
      intro _ hw'
      obtain ⟨nq, hw''⟩ := hw'
      subst hw''
      cases rg with
      | false =>
        go_wp2_with fail
        go_ret
        exact ⟨ret_int (by rw [hE3.out]; rfl), below_drewN HBx.out nq⟩
      | true =>
        go_wp2_with fail
        go_ret
        exact ⟨ret_int (by rw [hE3.out]; rfl), below_drewN HBx.out nq⟩
end Go.Proofs.Ytogfnjlhfbpneaa
