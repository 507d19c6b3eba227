/- Several texts laid together: SchColR, SchUniqR, SchFkR. -/
import Derived.Test.YtfljhnalmiibeaaGreatMbSchRefN
namespace Go.Proofs.YtfljhnalmiibeaaGreat
set_option maxRecDepth 100000
open Go.RowKit
set_option maxHeartbeats 6400000 in
theorem refColE_any (t : T6) (i : Nat) (w : World) (h : t.Reads w) (hi : i < t.nc) :
    Calls Tryz.prog 131 #[t.agg, .int .i64 i] w fun e w' => e = .returned (.int .i64 (colErr (t.cols.take i) (t.cols.getD i c40))) ∧ Below w.heap.size w w' := by
  obtain ⟨w1, hw1⟩ : ∃ w1, w1 = w.alloc (tabBox t) := ⟨_, rfl⟩
  have HB1 : Hid (Below w.heap.size w w1) := by rw [hw1]; exact below_new (Below.refl _ _) _
  have R1 : Hid (w1.heap[w.heap.size]? = some (tabBox t)) := by rw [hw1]; exact heap_alloc_new _ _
  have hs1 : w1.heap.size = w.heap.size + 1 := by rw [hw1]; simp
  have HC := Lib.hid (h.cols.below HB1.out); have HCL := Lib.hid h.cols.len
  obtain ⟨b, o, c, hca, hb, hx, hld⟩ := HC.out.col hi
  have HCA := Lib.hid hca; have HX := Lib.hid hx
  have hcle := h.cols.le
  obtain ⟨w2, hw2⟩ : ∃ w2, w2 = w1.alloc (colBox c) := ⟨_, rfl⟩
  have HW2 : Hid (w2 = (w.alloc (tabBox t)).alloc (colBox c)) := by show _ = _; rw [hw2, hw1]
  have B12 : Hid (Below w1.heap.size w1 w2) := by rw [hw2]; exact below_new (Below.refl _ _) _
  have HB2 : Hid (Below w.heap.size w w2) := Lib.hid (below_then HB1.out B12.out)
  have R2 := Lib.hid (row_below R1.out B12.out)
  have X2 : Hid (w2.heap[w.heap.size + 1]? = some (colBox c)) := by show _ = _; rw [hw2, ← hs1]; exact heap_alloc_new _ _
  obtain ⟨u0, u1, u2, u3⟩ := hld (w.alloc (tabBox t)) (by rw [← hw1]; exact Below.refl _ _)
  have v1 := (tab_row R1.out).2.1
  rw [hw1, hca] at v1
  obtain ⟨nz, hnz⟩ : ∃ nz, Hid (nameZ c.nm = nz) := ⟨_, rfl⟩
  obtain ⟨E, hEE⟩ : ∃ E, Hid (colErr (t.cols.take i) (t.cols.getD i c40) = E) := ⟨_, rfl⟩
  obtain ⟨th, hth⟩ : ∃ th, Hid (hasN C4.nm (t.cols.take i) c.nm = th) := ⟨_, rfl⟩
  have hE : Hid (E = if nz = false ∨ (c.k < 0 ∨ 4 < c.k) then 1 else if th = true then 5 else if mayB c.k c.t = false then 6 else if c.z = true ∧ 1 < c.k then 1 else 0) := by
    show _ = _
    rw [← hEE.out, getD_of hx, colErr, hnz.out, hth.out]
    by_cases hk : c.k < 0 ∨ 4 < c.k
    · have : kindB c.k = false := by simp [kindB]; omega
      rw [if_pos (.inr this), if_pos (.inr hk)]
    · have : kindB c.k = true := by simp [kindB]; omega
      rw [this]
      by_cases hn : nz = false
      · rw [if_pos (.inl hn), if_pos (.inl hn)]
      · have p1 : ¬ (nz = false ∨ true = false) := by simp [hn]
        have p2 : ¬ (nz = false ∨ (c.k < 0 ∨ 4 < c.k)) := by rintro (h | h); exact hn h; exact hk h
        rw [if_neg p1, if_neg p2]
        have e : (c.z = true ∧ c.k ≠ 0 ∧ c.k ≠ 1) ↔ (c.z = true ∧ 1 < c.k) := by constructor <;> (rintro ⟨h1, h2⟩; exact ⟨h1, by omega⟩)
        simp only [e]
  rw [hEE.out]
  have CN : Hid (∀ W, Calls Tryz.prog 98 #[.string c.nm] W fun e w' => e = .returned (.bool nz) ∧ Below W.heap.size W w') := fun W => by rw [← hnz.out]; exact refName_any c.nm W
  have y1 : (i : Int) < (t.nc : Int) := by omega
  have y0 : (0 : Int) ≤ (i : Int) := by omega
  clear h hw1 hw2 hEE hca hb hx hld hs1 hnz
  go_enter Tryz.func131, Tryz.ntmps131
  go_upto_region 2 with fail
  rw [show (w.alloc (tabBox t)).alloc (colBox c) = w2 from HW2.out.symm]
  clear HW2 u0 u1 u2 u3 v1
  obtain ⟨f0, f1, f2, f3⟩ := col_row X2.out
  go_wp2_with fail
  refine (CN.out _).mono ?_
  rintro e w3 ⟨rfl, b3⟩
  have HB3 := Lib.hid (below_then HB2.out b3)
  have B13 := Lib.hid (below_then B12.out b3)
  have R3 := Lib.hid (row_below R2.out b3); have X3 := Lib.hid (row_below X2.out b3)
  clear b3 CN R2 HB2 f0 f1 f2 f3
  obtain ⟨f0, f1, f2, f3⟩ := col_row X3.out
  cases nz with
  | false =>
    go_wp2_with fail
    go_ret
    exact ⟨ret_int (by rw [hE.out]; simp), HB3.out⟩
  | true =>
  by_cases k0 : c.k < 0
  · have hE3 : Hid (E = 1) := by show _ = _; rw [hE.out]; simp [k0]
    go_wp2_with fail
    go_ret
    exact ⟨ret_int hE3.out.symm, HB3.out⟩
  by_cases k4 : 4 < c.k
  · have hE3 : Hid (E = 1) := by show _ = _; rw [hE.out]; simp [k4]
    go_wp2_with fail
    go_ret
    exact ⟨ret_int hE3.out.symm, HB3.out⟩
  have hE2 : Hid (E = if th = true then 5 else if mayB c.k c.t = false then 6 else if c.z = true ∧ 1 < c.k then 1 else 0) := by show _ = _; rw [hE.out]; simp [k0, k4]
  have HK : Hid (0 ≤ c.k ∧ c.k ≤ 4) := by show _ ∧ _; omega
  go_wp2_with fail
  clear hE f0 f1 f2 f3 k0 k4
  go_loopw [6] (fun v wr => ∃ k : Nat, k ≤ i ∧ v = .int .i64 k ∧ Hid (∀ j y, j < k → t.cols[j]? = some y → decide (y.nm = c.nm) = false) ∧ Hid (Below w3.heap.size w3 wr)) (fun v _ => i - (intOf v).toNat)
  case atStart => exact ⟨0, Nat.zero_le _, rfl, by show ∀ j y, _; intro j y h; exact absurd h (by omega), Below.refl _ _⟩
  case round =>
    obtain ⟨k, hk, rfl, hA, KB⟩ := hrel
    have HBr := Lib.hid (below_then HB3.out KB.out)
    obtain ⟨c0, c1, c2, c3, c4, c5⟩ := tab_row (row_below R3.out KB.out)
    obtain ⟨f0, f1, f2, f3⟩ := col_row (row_below X3.out KB.out)
    rw [HCA.out] at c1
    by_cases hlt : k < i
    · obtain ⟨b', o', y, hca', hb', hy, hld'⟩ := HC.out.col (show k < t.nc by omega)
      have ea := HCA.out.symm.trans hca'
      cases ea
      obtain ⟨e0, e1, e2, e3⟩ := hld' wr (below_then B13.out KB.out)
      have HY := Lib.hid hy
      have y3 : (k : Int) < (i : Int) := by omega
      have y2 : (0 : Int) ≤ (k : Int) := by omega
      have y4 : (k : Int) < (t.nc : Int) := by omega
      clear hld' hb' hca' hy
      obtain ⟨q, hq⟩ : ∃ q, Hid (decide (y.nm = c.nm) = q) := ⟨_, rfl⟩
      have hq2 : (y.nm.toList == c.nm.toList) = q := by rw [← hq.out]; exact str_eq _ _
      cases q with
      | true =>
        have hE5 : Hid (E = 5) := by
          show _ = _
          have : th = true := by
            rw [← hth.out, hasN, List.any_eq_true]
            exact ⟨y, List.mem_of_getElem? (i := k) (by rw [List.getElem?_take, if_pos hlt]; exact HY.out), hq.out⟩
          rw [hE2.out, if_pos this]
        go_wp2_with fail
        refine wp_region_quiet_lit (by kernel_rfl) (by kernel_rfl) ?_
        repeat (with_reducible refine wpQuiet_step (fun K hK => ?_); go_simp; first | (with_reducible refine hK _ ?_; clear hK K) | (apply Exists.intro; with_reducible refine ⟨fun _ => ?_, hK _ ?_⟩; (fail); clear hK K))
        with_reducible refine wpQuiet_nil ?_
        intro _ hw'
        obtain ⟨nq, hw''⟩ := hw'
        subst hw''
        go_wp2_with fail
        go_ret
        exact ⟨ret_int hE5.out.symm, below_drewN HBr.out nq⟩
      | false =>
        have hA2 : Hid (∀ j z, j < k + 1 → t.cols[j]? = some z → decide (z.nm = c.nm) = false) := by show ∀ j z, _; exact ahead_next (p := fun z : C4 => decide (z.nm = c.nm)) HY.out hq.out hA.out
        go_wp2_with fail
        refine wp_region_quiet_lit (by kernel_rfl) (by kernel_rfl) ?_
        repeat (with_reducible refine wpQuiet_step (fun K hK => ?_); go_simp; first | (with_reducible refine hK _ ?_; clear hK K) | (apply Exists.intro; with_reducible refine ⟨fun _ => ?_, hK _ ?_⟩; (fail); clear hK K))
        with_reducible refine wpQuiet_nil ?_
        intro _ hw'
        obtain ⟨nq, hw''⟩ := hw'
        subst hw''
        go_wp2_with fail
        exact ⟨⟨k + 1, by omega, by go_num, hA2, below_drewN KB.out nq⟩, by simp [intOf]; omega⟩
    · obtain rfl : k = i := by omega
      have hE5 : Hid (E = if mayB c.k c.t = false then 6 else if c.z = true ∧ 1 < c.k then 1 else 0) := by
        show _ = _
        have : th = false := by
          rw [← hth.out, hasN, List.any_eq_false]
          intro z hz
          obtain ⟨j, hj, rfl⟩ := List.getElem_of_mem hz
          rw [List.length_take] at hj
          rw [List.getElem_take]
          have := hA.out j _ (by omega) (List.getElem?_eq_getElem (by omega))
          rw [this]; simp
        rw [hE2.out, this]; rfl
      have y3 : ¬ (k : Int) < (k : Int) := by omega
      clear hE2 hA c0 c1 c2 c3 c4 c5
      obtain ⟨z, hz⟩ : ∃ z, Hid (c.z = z) := ⟨_, rfl⟩
      rw [hz.out] at f3 hE5
      clear hz
      have hk0 := HK.out.1
      have hk4 := HK.out.2
      generalize c.k = kk at f1 hE5 hk0 hk4
      generalize c.t = tt at f2 hE5
      rcases Decidable.em (tt = 1) with rfl | t1
      · rcases Decidable.em (kk = 4) with rfl | k4
        · go_wp2_with fail
          go_ret
          exact ⟨ret_int (by rw [hE5.out]; rfl), HBr.out⟩
        · have m1 : mayB kk 1 = true := by simp [mayB, k4]
          have e4 := beq_no k4
          have hE6 : Hid (E = if z = true ∧ 1 < kk then 1 else 0) := by show _ = _; rw [hE5.out, m1]; rfl
          clear hE5 m1
          cases z with
          | false =>
            go_wp2_with fail
            all_goals (go_ret; exact ⟨ret_int (by rw [hE6.out]; rfl), HBr.out⟩)
          | true =>
            by_cases g1 : 1 < kk
            · have hE7 : Hid (E = 1) := by show _ = _; rw [hE6.out]; simp [g1]
              go_wp2_with fail
              all_goals (go_ret; exact ⟨ret_int hE7.out.symm, HBr.out⟩)
            · have hE7 : Hid (E = 0) := by show _ = _; rw [hE6.out]; simp [g1]
              go_wp2_with fail
              all_goals (go_ret; exact ⟨ret_int hE7.out.symm, HBr.out⟩)
      rcases Decidable.em (tt = 2) with rfl | t2
      · rcases Decidable.em (kk = 2) with rfl | k2
        · go_wp2_with fail
          go_ret
          exact ⟨ret_int (by rw [hE5.out]; rfl), HBr.out⟩
        rcases Decidable.em (kk = 3) with rfl | k3
        · go_wp2_with fail
          go_ret
          exact ⟨ret_int (by rw [hE5.out]; rfl), HBr.out⟩
        · have m1 : mayB kk 2 = true := by simp [mayB, k2, k3]
          have e2 := beq_no k2; have e3 := beq_no k3
          have hE6 : Hid (E = if z = true ∧ 1 < kk then 1 else 0) := by show _ = _; rw [hE5.out, m1]; rfl
          clear hE5 m1
          cases z with
          | false =>
            go_wp2_with fail
            all_goals (go_ret; exact ⟨ret_int (by rw [hE6.out]; rfl), HBr.out⟩)
          | true =>
            by_cases g1 : 1 < kk
            · have hE7 : Hid (E = 1) := by show _ = _; rw [hE6.out]; simp [g1]
              go_wp2_with fail
              all_goals (go_ret; exact ⟨ret_int hE7.out.symm, HBr.out⟩)
            · have hE7 : Hid (E = 0) := by show _ = _; rw [hE6.out]; simp [g1]
              go_wp2_with fail
              all_goals (go_ret; exact ⟨ret_int hE7.out.symm, HBr.out⟩)
      have m1 : mayB kk tt = false := by simp [mayB, t1, t2]
      have e1 := beq_no t1; have e2 := beq_no t2
      have n1 : (tt != 1) = true := by simp [bne, e1]
      have n2 : (tt != 2) = true := by simp [bne, e2]
      have hE6 : Hid (E = 6) := by show _ = _; rw [hE5.out, m1]; rfl
      clear hE5 m1
      go_wp2_with fail
      go_ret
      exact ⟨ret_int hE6.out.symm, HBr.out⟩
end Go.Proofs.YtfljhnalmiibeaaGreat

namespace Go.Proofs.YtfljhnalmiibeaaGreat
set_option maxRecDepth 100000
open Go.RowKit
set_option maxHeartbeats 6400000 in
theorem refUniqE_any (t : T6) (i : Nat) (w : World) (h : t.Reads w) (hi : i < t.nu) :
    Calls Tryz.prog 132 #[t.agg, .int .i64 i] w fun e w' => e = .returned (.int .i64 (uniErr t.cols t.uni i)) ∧ Below w.heap.size w w' := by
  obtain ⟨w1, hw1⟩ : ∃ w1, w1 = w.alloc (tabBox t) := ⟨_, rfl⟩
  have HW1 := Lib.hid hw1
  have HB1 : Hid (Below w.heap.size w w1) := by rw [hw1]; exact below_new (Below.refl _ _) _
  have R1 : Hid (w1.heap[w.heap.size]? = some (tabBox t)) := by rw [hw1]; exact heap_alloc_new _ _
  have HU := Lib.hid (h.uni.below HB1.out); have HC := Lib.hid (h.cols.below HB1.out); have HCL := Lib.hid h.cols.len
  obtain ⟨b, o, z, hua, hb, hz, hld⟩ := HU.out.int hi
  have hule := h.uni.le
  have HUA := Lib.hid hua; have HLD := Lib.hid hld
  obtain ⟨bd, hbd⟩ : ∃ bd, Hid (bindB t.nc z = bd) := ⟨_, rfl⟩
  obtain ⟨rg, hrg⟩ : ∃ rg, Hid (regB (colOf t.cols z) = rg) := ⟨_, rfl⟩
  obtain ⟨E, hEE⟩ : ∃ E, Hid (uniErr t.cols t.uni i = E) := ⟨_, rfl⟩
  have hE : Hid (E = if bd = false then 4 else if 0 < i ∧ z ≤ t.uni.getD (i - 1) 0 then 1 else if rg = false then 6 else 0) := by
    show _ = _
    rw [← hEE.out, uniErr, getD_of hz, HCL.out, hbd.out, hrg.out]
  rw [hEE.out]
  have CB : Hid (∀ W, Below w1.heap.size w1 W → Calls Tryz.prog 163 #[.agg #[.string t.nm, .slice t.ca t.nc t.cc, .slice (some ⟨b, o, none⟩) t.nu t.uc, .slice t.ha t.nh t.hc, .slice t.fa t.nf t.fc, .slice t.sa t.ns t.sc], .int .i64 z] W fun e w' => e = .returned (.tuple #[.bool bd, .bool (bd && rg)]) ∧ Below W.heap.size W w') := fun W hW => by rw [← hbd.out, ← hrg.out, ← hua]; exact number_any t z W (HC.out.below hW)
  have y1 : (i : Int) < (t.nu : Int) := by omega
  have y0 : (0 : Int) ≤ (i : Int) := by omega
  have q1 := Below.refl w1.heap.size w1
  have q2 : w1.cell? ⟨w.heap.size, 0, none⟩ = some (.string t.nm) ∧ w1.cell? ⟨w.heap.size, 1, none⟩ = some (.slice t.ca t.nc t.cc) ∧ w1.cell? ⟨w.heap.size, 2, none⟩ = some (.slice (some ⟨b, o, none⟩) t.nu t.uc) ∧ w1.cell? ⟨w.heap.size, 3, none⟩ = some (.slice t.ha t.nh t.hc) ∧ w1.cell? ⟨w.heap.size, 4, none⟩ = some (.slice t.fa t.nf t.fc) ∧ w1.cell? ⟨w.heap.size, 5, none⟩ = some (.slice t.sa t.ns t.sc) ∧ w1.cell? ⟨b, o + i, none⟩ = some (.int .i64 z) := by
    obtain ⟨c0, c1, c2, c3, c4, c5⟩ := tab_row R1.out
    rw [hua] at c2
    exact ⟨c0, c1, c2, c3, c4, c5, hld w1 (Below.refl _ _)⟩
  obtain ⟨c0, c1, c2, c3, c4, c5, u0⟩ := q2
  clear h hw1 hEE hrg hua hb hz hld
  go_enter Tryz.func132, Tryz.ntmps132
  go_upto_region 1 with fail
  rw [show w.alloc (tabBox t) = w1 from HW1.out.symm]
  clear HW1
  have hS0 : Below w1.heap.size w1 w1.drew ∧ w1.drew.cell? ⟨w.heap.size, 0, none⟩ = some (.string t.nm) ∧ w1.drew.cell? ⟨w.heap.size, 1, none⟩ = some (.slice t.ca t.nc t.cc) ∧ w1.drew.cell? ⟨w.heap.size, 2, none⟩ = some (.slice (some ⟨b, o, none⟩) t.nu t.uc) ∧ w1.drew.cell? ⟨w.heap.size, 3, none⟩ = some (.slice t.ha t.nh t.hc) ∧ w1.drew.cell? ⟨w.heap.size, 4, none⟩ = some (.slice t.fa t.nf t.fc) ∧ w1.drew.cell? ⟨w.heap.size, 5, none⟩ = some (.slice t.sa t.ns t.sc) ∧ w1.drew.cell? ⟨b, o + i, none⟩ = some (.int .i64 z) := ⟨q1.drew, c0, c1, c2, c3, c4, c5, u0⟩
  obtain ⟨k0, k1, k2, k3, k4, k5, k6, k7⟩ := hS0
  clear q1 c0 c1 c2 c3 c4 c5 u0
  go_region_held3 (fun W => Below w1.heap.size w1 W ∧ W.cell? ⟨w.heap.size, 0, none⟩ = some (.string t.nm) ∧ W.cell? ⟨w.heap.size, 1, none⟩ = some (.slice t.ca t.nc t.cc) ∧ W.cell? ⟨w.heap.size, 2, none⟩ = some (.slice (some ⟨b, o, none⟩) t.nu t.uc) ∧ W.cell? ⟨w.heap.size, 3, none⟩ = some (.slice t.ha t.nh t.hc) ∧ W.cell? ⟨w.heap.size, 4, none⟩ = some (.slice t.fa t.nf t.fc) ∧ W.cell? ⟨w.heap.size, 5, none⟩ = some (.slice t.sa t.ns t.sc) ∧ W.cell? ⟨b, o + i, none⟩ = some (.int .i64 z))
    (first
      | (go_split_ands
         refine ⟨?_, ?_, ?_, ?_, ?_, ?_, ?_, ?_⟩
         · exact below_then (by assumption) bb
         all_goals exact (bb.cell (World.block_lt_of_cell? _ _ (by assumption))).trans (by assumption))
      | (go_split_ands
         refine ⟨?_, ?_, ?_, ?_, ?_, ?_, ?_, ?_⟩
         · exact Below.drew (by assumption)
         all_goals (show World.cell? _ _ = _; assumption))
      | (go_split_ands
         refine ⟨?_, ?_, ?_, ?_, ?_, ?_, ?_, ?_⟩
         all_goals assumption))
    (first
      | (go_at_call 163; refine (CB.out _ (by go_split_ands; assumption)).mono ?_; rintro e wx ⟨rfl, bb⟩))
  go_split_ands
  have HBx := Lib.hid (HB1.out.trans (show Below w.heap.size w1 wx from (show Below w1.heap.size w1 wx by assumption).mono HB1.out.size))
  have B1x := Lib.hid (show Below w1.heap.size w1 wx by assumption)
  have Rx := Lib.hid (row_below (row_drew R1.out) bb)
  have ux := HLD.out wx B1x.out
  clear bb k0 k1 k2 k3 k4 k5 k6 k7
  obtain ⟨c0, c1, c2, c3, c4, c5⟩ := tab_row Rx.out
  rw [HUA.out] at c2
  cases bd with
  | false =>
    go_wp2_with fail
    go_ret
    exact ⟨ret_int (by rw [hE.out]; simp), HBx.out⟩
  | true =>
    by_cases hi0 : 0 < i
    · obtain ⟨b', o', y, hua', hb', hy, hld'⟩ := HU.out.int (show i - 1 < t.nu by omega)
      have ea := HUA.out.symm.trans hua'
      cases ea
      have e0 := hld' wx B1x.out
      have y2 : (0 : Int) < (i : Int) := by omega
      have y3 : IntKind.i64.wrap ((i : Int) - 1) = (i : Int) - 1 := wrap_is (by omega)
      have y4 : ((i : Int) - 1).toNat = i - 1 := by omega
      have y5 : (0 : Int) ≤ (i : Int) - 1 := by omega
      have y6 : (i : Int) - 1 < (t.nu : Int) := by omega
      have y7 : (1 : Int) ≤ (i : Int) := by omega
      have y8 : decide ((0 : Int) < (i : Int)) = true := decide_eq_true y2
      have y9 : decide (0 < i) = true := decide_eq_true hi0
      have y10 : 1 ≤ i := hi0
      have hE2 : Hid (E = if z ≤ y then 1 else if rg = false then 6 else 0) := by
        show _ = _
        rw [hE.out, getD_of hy]; simp [hi0]
      clear hld' hb' hua' hy hE
      by_cases hzy : z ≤ y
      · have hE3 : Hid (E = 1) := by show _ = _; rw [hE2.out, if_pos hzy]
        go_wp2_with fail
        refine wp_region_quiet_lit (by kernel_rfl) (by kernel_rfl) ?_
        repeat (with_reducible refine wpQuiet_step (fun K hK => ?_); go_simp; first | (with_reducible refine hK _ ?_; clear hK K) | (apply Exists.intro; with_reducible refine ⟨fun _ => ?_, hK _ ?_⟩; (fail); clear hK K))
        with_reducible refine wpQuiet_nil ?_
        intro _ hw'
        obtain ⟨nq, hw''⟩ := hw'
        subst hw''
        go_wp2_with fail
        go_ret
        exact ⟨ret_int hE3.out.symm, below_drewN HBx.out nq⟩
      · have hE3 : Hid (E = if rg = false then 6 else 0) := by show _ = _; rw [hE2.out, if_neg hzy]
        go_wp2_with fail
        refine wp_region_quiet_lit (by kernel_rfl) (by kernel_rfl) ?_
        repeat (with_reducible refine wpQuiet_step (fun K hK => ?_); go_simp; first | (with_reducible refine hK _ ?_; clear hK K) | (apply Exists.intro; with_reducible refine ⟨fun _ => ?_, hK _ ?_⟩; (fail); clear hK K))
        with_reducible refine wpQuiet_nil ?_
        intro _ hw'
        obtain ⟨nq, hw''⟩ := hw'
        subst hw''
        cases rg with
        | false =>
          go_wp2_with fail
          go_ret
          exact ⟨ret_int (by rw [hE3.out]; rfl), below_drewN HBx.out nq⟩
        | true =>
          go_wp2_with fail
          go_ret
          exact ⟨ret_int (by rw [hE3.out]; rfl), below_drewN HBx.out nq⟩
    · obtain rfl : i = 0 := by omega
      have hE3 : Hid (E = if rg = false then 6 else 0) := by show _ = _; rw [hE.out]; simp
      clear hi0 hE y0 y1
      go_wp2_with fail
      refine wp_region_quiet_lit (by kernel_rfl) (by kernel_rfl) ?_
      repeat (with_reducible refine wpQuiet_step (fun K hK => ?_); go_simp; first | (with_reducible refine hK _ ?_; clear hK K) | (apply Exists.intro; with_reducible refine ⟨fun _ => ?_, hK _ ?_⟩; (fail); clear hK K))
      with_reducible refine wpQuiet_nil ?_
      intro _ hw'
      obtain ⟨nq, hw''⟩ := hw'
      subst hw''
      cases rg with
      | false =>
        go_wp2_with fail
        go_ret
        exact ⟨ret_int (by rw [hE3.out]; rfl), below_drewN HBx.out nq⟩
      | true =>
        go_wp2_with fail
        go_ret
        exact ⟨ret_int (by rw [hE3.out]; rfl), below_drewN HBx.out nq⟩
end Go.Proofs.YtfljhnalmiibeaaGreat

namespace Go.Proofs.YtfljhnalmiibeaaGreat
set_option maxRecDepth 100000
open Go.RowKit
set_option maxHeartbeats 12800000 in
theorem refForeignE_any (A : Option Addr) (n c : Nat) (t : T6) (i : Nat) (w : World) (h : t.Reads w) (hi : i < t.nf) :
    Calls Tryz.prog 133 #[.agg #[.slice A n c], t.agg, .int .i64 i] w fun e w' => e = .returned (.int .i64 (fkErr n t.cols t.fks i)) ∧ Below w.heap.size w w' := by
  obtain ⟨w1, hw1⟩ : ∃ w1, w1 = (w.alloc (schBox A n c)).alloc (tabBox t) := ⟨_, rfl⟩
  have HB1 : Hid (Below w.heap.size w w1) := by rw [hw1]; exact below_new (below_new (Below.refl _ _) _) _
  have S1 : Hid (w1.heap[w.heap.size]? = some (schBox A n c)) := by rw [hw1, Below.heap_alloc _ _ _ (by simp)]; exact heap_alloc_new _ _
  have R1 : Hid (w1.heap[w.heap.size + 1]? = some (tabBox t)) := by
    show _ = _
    rw [hw1]
    have := heap_alloc_new (w.alloc (schBox A n c)) (tabBox t)
    rwa [World.size_alloc] at this
  have hs1 : w1.heap.size = w.heap.size + 1 + 1 := by rw [hw1]; simp
  have HF := Lib.hid (h.fks.below HB1.out); have HC := Lib.hid (h.cols.below HB1.out); have HCL := Lib.hid h.cols.len
  obtain ⟨b, o, x, hfa, hb, hx, hld⟩ := HF.out.f3 hi
  have HFA := Lib.hid hfa
  have hfle := h.fks.le
  obtain ⟨w2, hw2⟩ : ∃ w2, w2 = w1.alloc (fkBox x) := ⟨_, rfl⟩
  have HW2 : Hid (w2 = ((w.alloc (schBox A n c)).alloc (tabBox t)).alloc (fkBox x)) := by show _ = _; rw [hw2, hw1]
  have B12 : Hid (Below w1.heap.size w1 w2) := by rw [hw2]; exact below_new (Below.refl _ _) _
  have HB2 : Hid (Below w.heap.size w w2) := Lib.hid (below_then HB1.out B12.out)
  have S2 := Lib.hid (row_below S1.out B12.out); have R2 := Lib.hid (row_below R1.out B12.out)
  have X2 : Hid (w2.heap[w.heap.size + 1 + 1]? = some (fkBox x)) := by show _ = _; rw [hw2, ← hs1]; exact heap_alloc_new _ _
  obtain ⟨u0, u1, u2⟩ := hld ((w.alloc (schBox A n c)).alloc (tabBox t)) (by rw [← hw1]; exact Below.refl _ _)
  have v4 := (tab_row R1.out).2.2.2.2.1
  rw [hw1, hfa] at v4
  obtain ⟨bd, hbd⟩ : ∃ bd, Hid (bindB t.nc x.a = bd) := ⟨_, rfl⟩
  obtain ⟨rg, hrg⟩ : ∃ rg, Hid (regB (colOf t.cols x.a) = rg) := ⟨_, rfl⟩
  obtain ⟨z, hz⟩ : ∃ z, Hid ((colOf t.cols x.a).z = z) := ⟨_, rfl⟩
  obtain ⟨E, hEE⟩ : ∃ E, Hid (fkErr n t.cols t.fks i = E) := ⟨_, rfl⟩
  have hE : Hid (E = if bd = false ∨ x.b < 0 ∨ (n : Int) ≤ x.b then 4 else if (0 < i ∧ x.a ≤ (t.fks.getD (i - 1) f30).a) ∨ actB x.c = false then 1 else if rg = false ∨ (z = false ∧ x.c = 2) then 6 else 0) := by
    show _ = _
    rw [← hEE.out, fkErr, getD_of hx, HCL.out, hbd.out, hrg.out, hz.out]
  rw [hEE.out]
  have CB : Hid (∀ W, Below w1.heap.size w1 W → Calls Tryz.prog 163 #[.agg #[.string t.nm, .slice t.ca t.nc t.cc, .slice t.ua t.nu t.uc, .slice t.ha t.nh t.hc, .slice (some ⟨b, o, none⟩) t.nf t.fc, .slice t.sa t.ns t.sc], .int .i64 x.a] W fun e w' => e = .returned (.tuple #[.bool bd, .bool (bd && rg)]) ∧ Below W.heap.size W w') := fun W hW => by rw [← hbd.out, ← hrg.out, ← hfa]; exact number_any t x.a W (HC.out.below hW)
  have y1 : (i : Int) < (t.nf : Int) := by omega
  have y0 : (0 : Int) ≤ (i : Int) := by omega
  clear h hw1 hw2 hEE hrg hfa hb hx hld hs1
  go_enter Tryz.func133, Tryz.ntmps133
  go_upto_region 2 with fail
  rw [show ((w.alloc (schBox A n c)).alloc (tabBox t)).alloc (fkBox x) = w2 from HW2.out.symm]
  clear HW2 u0 u1 u2 v4
  obtain ⟨c0, c1, c2, c3, c4, c5⟩ := tab_row R2.out
  obtain ⟨f0, f1, f2⟩ := f3_row X2.out
  have s0 := sch_row S2.out
  rw [HFA.out] at c4
  go_wp2_with fail
  refine (CB.out _ B12.out).mono ?_
  rintro e w3 ⟨rfl, b3⟩
  have HB3 := Lib.hid (below_then HB2.out b3)
  have B13 := Lib.hid (below_then B12.out b3)
  have S3 := Lib.hid (row_below S2.out b3); have R3 := Lib.hid (row_below R2.out b3); have X3 := Lib.hid (row_below X2.out b3)
  clear b3 CB B12 S2 R2 X2 HB2 c0 c1 c2 c3 c4 c5 f0 f1 f2 s0
  obtain ⟨c0, c1, c2, c3, c4, c5⟩ := tab_row R3.out
  obtain ⟨f0, f1, f2⟩ := f3_row X3.out
  have s0 := sch_row S3.out
  rw [HFA.out] at c4
  cases bd with
  | false =>
    go_wp2_with fail
    go_ret
    exact ⟨ret_int (by rw [hE.out]; simp), HB3.out⟩
  | true =>
    obtain ⟨bc, oc, hca, hbc, ⟨z0, z1⟩, hcl⟩ := HC.out.colAt hbd.out
    have HCA := Lib.hid hca; have HCLL := Lib.hid hcl
    rw [hca] at c1
    clear hca hcl hbc hbd
    by_cases hb0 : x.b < 0
    · have hE3 : Hid (E = 4) := by show _ = _; rw [hE.out]; simp [hb0]
      go_wp2_with fail
      go_ret
      exact ⟨ret_int hE3.out.symm, HB3.out⟩
    by_cases hbn : (n : Int) ≤ x.b
    · have hE3 : Hid (E = 4) := by show _ = _; rw [hE.out]; simp [hbn]
      go_wp2_with fail
      go_ret
      exact ⟨ret_int hE3.out.symm, HB3.out⟩
    have hE2 : Hid (E = if (0 < i ∧ x.a ≤ (t.fks.getD (i - 1) f30).a) ∨ actB x.c = false then 1 else if rg = false ∨ (z = false ∧ x.c = 2) then 6 else 0) := by show _ = _; rw [hE.out]; simp [hb0, hbn]
    clear hE
    by_cases hi0 : 0 < i
    · obtain ⟨b', o', y, hfa', hb', hy, hld'⟩ := HF.out.f3 (show i - 1 < t.nf by omega)
      have ea := HFA.out.symm.trans hfa'
      cases ea
      obtain ⟨e0, e1, e2⟩ := hld' w3 B13.out
      have y2 : (0 : Int) < (i : Int) := by omega
      have y3 : IntKind.i64.wrap ((i : Int) - 1) = (i : Int) - 1 := wrap_is (by omega)
      have y4 : ((i : Int) - 1).toNat = i - 1 := by omega
      have y5 : (0 : Int) ≤ (i : Int) - 1 := by omega
      have y6 : (i : Int) - 1 < (t.nf : Int) := by omega
      have y7 : (1 : Int) ≤ (i : Int) := by omega
      have y8 : decide ((0 : Int) < (i : Int)) = true := decide_eq_true y2
      have y9 : decide (0 < i) = true := decide_eq_true hi0
      have y10 : 1 ≤ i := hi0
      have hE3 : Hid (E = if x.a ≤ y.a ∨ actB x.c = false then 1 else if rg = false ∨ (z = false ∧ x.c = 2) then 6 else 0) := by
        show _ = _
        rw [hE2.out, getD_of hy]; simp [hi0]
      clear hld' hb' hfa' hy hE2
      by_cases hxy : x.a ≤ y.a
      · have hE4 : Hid (E = 1) := by show _ = _; rw [hE3.out, if_pos (.inl hxy)]
        have hxy2 : decide (x.a ≤ y.a) = true := decide_eq_true hxy
        go_wp2_with fail
        refine wp_region_quiet_lit (by kernel_rfl) (by kernel_rfl) ?_
        repeat (with_reducible refine wpQuiet_step (fun K hK => ?_); go_simp; first | (with_reducible refine hK _ ?_; clear hK K) | (apply Exists.intro; with_reducible refine ⟨fun _ => ?_, hK _ ?_⟩; (fail); clear hK K))
        with_reducible refine wpQuiet_nil ?_
        intro _ hw'
        obtain ⟨nq, hw''⟩ := hw'
        subst hw''
        go_wp2_with fail
        go_ret
        exact ⟨ret_int hE4.out.symm, below_drewN HB3.out nq⟩
      · have hxy2 : decide (x.a ≤ y.a) = false := decide_eq_false hxy
        have hE4 : Hid (E = if actB x.c = false then 1 else if rg = false ∨ (z = false ∧ x.c = 2) then 6 else 0) := by show _ = _; rw [hE3.out]; simp [hxy]
        by_cases ha0 : x.c < 0
        · have hE5 : Hid (E = 1) := by
            show _ = _
            have : actB x.c = false := by simp [actB]; omega
            rw [hE4.out, if_pos this]
          go_wp2_with fail
          refine wp_region_quiet_lit (by kernel_rfl) (by kernel_rfl) ?_
          repeat (with_reducible refine wpQuiet_step (fun K hK => ?_); go_simp; first | (with_reducible refine hK _ ?_; clear hK K) | (apply Exists.intro; with_reducible refine ⟨fun _ => ?_, hK _ ?_⟩; (fail); clear hK K))
          with_reducible refine wpQuiet_nil ?_
          intro _ hw'
          obtain ⟨nq, hw''⟩ := hw'
          subst hw''
          go_wp2_with fail
          go_ret
          exact ⟨ret_int hE5.out.symm, below_drewN HB3.out nq⟩
        by_cases ha2 : 2 < x.c
        · have hE5 : Hid (E = 1) := by
            show _ = _
            have : actB x.c = false := by simp [actB]; omega
            rw [hE4.out, if_pos this]
          go_wp2_with fail
          refine wp_region_quiet_lit (by kernel_rfl) (by kernel_rfl) ?_
          repeat (with_reducible refine wpQuiet_step (fun K hK => ?_); go_simp; first | (with_reducible refine hK _ ?_; clear hK K) | (apply Exists.intro; with_reducible refine ⟨fun _ => ?_, hK _ ?_⟩; (fail); clear hK K))
          with_reducible refine wpQuiet_nil ?_
          intro _ hw'
          obtain ⟨nq, hw''⟩ := hw'
          subst hw''
          go_wp2_with fail
          go_ret
          exact ⟨ret_int hE5.out.symm, below_drewN HB3.out nq⟩
        have hE5 : Hid (E = if rg = false ∨ (z = false ∧ x.c = 2) then 6 else 0) := by
          show _ = _
          have : ¬ actB x.c = false := by simp [actB]; omega
          rw [hE4.out, if_neg this]
        go_wp2_with fail
        refine wp_region_quiet_lit (by kernel_rfl) (by kernel_rfl) ?_
        repeat (with_reducible refine wpQuiet_step (fun K hK => ?_); go_simp; first | (with_reducible refine hK _ ?_; clear hK K) | (apply Exists.intro; with_reducible refine ⟨fun _ => ?_, hK _ ?_⟩; (fail); clear hK K))
        with_reducible refine wpQuiet_nil ?_
        intro _ hw'
        obtain ⟨nq, hw''⟩ := hw'
        subst hw''
        clear c0 c1 c2 c3 c4 c5 f0 f1 f2 s0
        have HB4 := Lib.hid (below_drewN HB3.out nq)
        obtain ⟨c0, c1, c2, c3, c4, c5⟩ := tab_row (show (w3.drewN nq).heap[w.heap.size + 1]? = some (tabBox t) from R3.out)
        obtain ⟨f0, f1, f2⟩ := f3_row (show (w3.drewN nq).heap[w.heap.size + 1 + 1]? = some (fkBox x) from X3.out)
        obtain ⟨d0, d1, d2, d3⟩ := HCLL.out (w3.drewN nq) (below_drewN B13.out nq)
        rw [HCA.out] at c1
        rw [hz.out] at d3
        clear hz
        cases rg with
        | false =>
          go_wp2_with fail
          go_ret
          exact ⟨ret_int (by rw [hE5.out]; simp), HB4.out⟩
        | true =>
          by_cases h2 : x.c = 2
          · have e2 := beq_yes h2
            have hE6 : Hid (E = if z = false then 6 else 0) := by show _ = _; rw [hE5.out]; simp [h2]
            clear h2
            cases z with
            | true =>
              go_wp2_with fail
              go_ret
              exact ⟨ret_int (by rw [hE6.out]; rfl), HB4.out⟩
            | false =>
              go_wp2_with fail
              go_ret
              exact ⟨ret_int (by rw [hE6.out]; rfl), HB4.out⟩
          · have e2 := beq_no h2
            have hE6 : Hid (E = 0) := by show _ = _; rw [hE5.out]; simp [h2]
            clear h2
            go_wp2_with fail
            go_ret
            exact ⟨ret_int hE6.out.symm, HB4.out⟩
    · obtain rfl : i = 0 := by omega
      clear y0 y1
      have hE4 : Hid (E = if actB x.c = false then 1 else if rg = false ∨ (z = false ∧ x.c = 2) then 6 else 0) := by show _ = _; rw [hE2.out]; simp
      clear hi0
      by_cases ha0 : x.c < 0
      · have hE5 : Hid (E = 1) := by
          show _ = _
          have : actB x.c = false := by simp [actB]; omega
          rw [hE4.out, if_pos this]
        go_wp2_with fail
        refine wp_region_quiet_lit (by kernel_rfl) (by kernel_rfl) ?_
        repeat (with_reducible refine wpQuiet_step (fun K hK => ?_); go_simp; first | (with_reducible refine hK _ ?_; clear hK K) | (apply Exists.intro; with_reducible refine ⟨fun _ => ?_, hK _ ?_⟩; (fail); clear hK K))
        with_reducible refine wpQuiet_nil ?_
        intro _ hw'
        obtain ⟨nq, hw''⟩ := hw'
        subst hw''
        go_wp2_with fail
        go_ret
        exact ⟨ret_int hE5.out.symm, below_drewN HB3.out nq⟩
      by_cases ha2 : 2 < x.c
      · have hE5 : Hid (E = 1) := by
          show _ = _
          have : actB x.c = false := by simp [actB]; omega
          rw [hE4.out, if_pos this]
        go_wp2_with fail
        refine wp_region_quiet_lit (by kernel_rfl) (by kernel_rfl) ?_
        repeat (with_reducible refine wpQuiet_step (fun K hK => ?_); go_simp; first | (with_reducible refine hK _ ?_; clear hK K) | (apply Exists.intro; with_reducible refine ⟨fun _ => ?_, hK _ ?_⟩; (fail); clear hK K))
        with_reducible refine wpQuiet_nil ?_
        intro _ hw'
        obtain ⟨nq, hw''⟩ := hw'
        subst hw''
        go_wp2_with fail
        go_ret
        exact ⟨ret_int hE5.out.symm, below_drewN HB3.out nq⟩
      have hE5 : Hid (E = if rg = false ∨ (z = false ∧ x.c = 2) then 6 else 0) := by
        show _ = _
        have : ¬ actB x.c = false := by simp [actB]; omega
        rw [hE4.out, if_neg this]
      go_wp2_with fail
      refine wp_region_quiet_lit (by kernel_rfl) (by kernel_rfl) ?_
      repeat (with_reducible refine wpQuiet_step (fun K hK => ?_); go_simp; first | (with_reducible refine hK _ ?_; clear hK K) | (apply Exists.intro; with_reducible refine ⟨fun _ => ?_, hK _ ?_⟩; (fail); clear hK K))
      with_reducible refine wpQuiet_nil ?_
      intro _ hw'
      obtain ⟨nq, hw''⟩ := hw'
      subst hw''
      clear c0 c1 c2 c3 c4 c5 f0 f1 f2 s0
      have HB4 := Lib.hid (below_drewN HB3.out nq)
      obtain ⟨c0, c1, c2, c3, c4, c5⟩ := tab_row (show (w3.drewN nq).heap[w.heap.size + 1]? = some (tabBox t) from R3.out)
      obtain ⟨f0, f1, f2⟩ := f3_row (show (w3.drewN nq).heap[w.heap.size + 1 + 1]? = some (fkBox x) from X3.out)
      obtain ⟨d0, d1, d2, d3⟩ := HCLL.out (w3.drewN nq) (below_drewN B13.out nq)
      rw [HCA.out] at c1
      rw [hz.out] at d3
      clear hz
      cases rg with
      | false =>
        go_wp2_with fail
        go_ret
        exact ⟨ret_int (by rw [hE5.out]; simp), HB4.out⟩
      | true =>
        by_cases h2 : x.c = 2
        · have e2 := beq_yes h2
          have hE6 : Hid (E = if z = false then 6 else 0) := by show _ = _; rw [hE5.out]; simp [h2]
          clear h2
          cases z with
          | true =>
            go_wp2_with fail
            go_ret
            exact ⟨ret_int (by rw [hE6.out]; rfl), HB4.out⟩
          | false =>
            go_wp2_with fail
            go_ret
            exact ⟨ret_int (by rw [hE6.out]; rfl), HB4.out⟩
        · have e2 := beq_no h2
          have hE6 : Hid (E = 0) := by show _ = _; rw [hE5.out]; simp [h2]
          clear h2
          go_wp2_with fail
          go_ret
          exact ⟨ret_int hE6.out.symm, HB4.out⟩
end Go.Proofs.YtfljhnalmiibeaaGreat

