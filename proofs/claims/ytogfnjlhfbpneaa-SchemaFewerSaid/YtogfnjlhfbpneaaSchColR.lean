/- Layer 11: what is amiss in a column: the document. Written by schref.py. -/
import Derived.Test.YtogfnjlhfbpneaaSchUniq
namespace Go.Proofs.Ytogfnjlhfbpneaa
set_option maxRecDepth 100000
open Go.RowKit

set_option maxHeartbeats 6400000 in
theorem refColE_any (t : T6) (i : Nat) (w : World) (h : t.Reads w) (hi : i < t.nc) :
    Calls Try.prog 56 #[t.agg, .int .i64 i] w fun e w' => e = .returned (.int .i64 (colErr (t.cols.take i) (t.cols.getD i c40))) ∧ Below w.heap.size w w' := by
  obtain ⟨w1, hw1⟩ : ∃ w1, w1 = w.alloc (tabBox t) := ⟨_, rfl⟩
  have HB1 : Hid (Below w.heap.size w w1) := by rw [hw1]; exact below_new (Below.refl _ _) _
  have R1 : Hid (w1.heap[w.heap.size]? = some (tabBox t)) := by rw [hw1]; exact heap_alloc_new _ _
  have hs1 : w1.heap.size = w.heap.size + 1 := by rw [hw1]; simp
  have HC := Lib.hid (h.cols.below HB1.out); have HCL := Lib.hid h.cols.len
  obtain ⟨b, o, c, hca, hb, hx, hld⟩ := HC.out.col hi
  have HCA := Lib.hid hca; have HX := Lib.hid hx
  have hcle := h.cols.le
  obtain ⟨w2, hw2⟩ : ∃ w2, w2 = w1.alloc (colBox c) := ⟨_, rfl⟩
  have HW2 : Hid (w2 = (w.alloc (tabBox t)).alloc (colBox c)) := by show _ = _; rw [hw2, hw1]
  have B12 : Hid (Below w1.heap.size w1 w2) := by rw [hw2]; exact below_new (Below.refl _ _) _
  have HB2 : Hid (Below w.heap.size w w2) := Lib.hid (below_then HB1.out B12.out)
  have R2 := Lib.hid (row_below R1.out B12.out)
  have X2 : Hid (w2.heap[w.heap.size + 1]? = some (colBox c)) := by show _ = _; rw [hw2, ← hs1]; exact heap_alloc_new _ _
  obtain ⟨u0, u1, u2, u3⟩ := hld (w.alloc (tabBox t)) (by rw [← hw1]; exact Below.refl _ _)
  have v1 := (tab_row R1.out).2.1
  rw [hw1, hca] at v1
  obtain ⟨nz, hnz⟩ : ∃ nz, Hid (nameZ c.nm = nz) := ⟨_, rfl⟩
  obtain ⟨E, hEE⟩ : ∃ E, Hid (colErr (t.cols.take i) (t.cols.getD i c40) = E) := ⟨_, rfl⟩
  obtain ⟨th, hth⟩ : ∃ th, Hid (hasN C4.nm (t.cols.take i) c.nm = th) := ⟨_, rfl⟩
  have hE : Hid (E = if nz = false ∨ (c.k < 0 ∨ 4 < c.k) then 1 else if th = true then 5 else if mayB c.k c.t = false then 6 else if c.z = true ∧ 1 < c.k then 1 else 0) := by
    show _ = _
    rw [← hEE.out, getD_of hx, colErr, hnz.out, hth.out]
    by_cases hk : c.k < 0 ∨ 4 < c.k
    · have : kindB c.k = false := by simp [kindB]; omega
      rw [if_pos (.inr this), if_pos (.inr hk)]
    · have : kindB c.k = true := by simp [kindB]; omega
      rw [this]
      by_cases hn : nz = false
      · rw [if_pos (.inl hn), if_pos (.inl hn)]
      · have p1 : ¬ (nz = false ∨ true = false) := by simp [hn]
        have p2 : ¬ (nz = false ∨ (c.k < 0 ∨ 4 < c.k)) := by rintro (h | h); exact hn h; exact hk h
        rw [if_neg p1, if_neg p2]
        have e : (c.z = true ∧ c.k ≠ 0 ∧ c.k ≠ 1) ↔ (c.z = true ∧ 1 < c.k) := by constructor <;> (rintro ⟨h1, h2⟩; exact ⟨h1, by omega⟩)
        simp only [e]
  rw [hEE.out]
  have CN : Hid (∀ W, Calls Try.prog 12 #[.string c.nm] W fun e w' => e = .returned (.bool nz) ∧ Below W.heap.size W w') := fun W => by rw [← hnz.out]; exact refName_any c.nm W
  have y1 : (i : Int) < (t.nc : Int) := by omega
  have y0 : (0 : Int) ≤ (i : Int) := by omega
  clear h hw1 hw2 hEE hca hb hx hld hs1 hnz
  go_enter Try.func56, Try.ntmps56
  go_upto_region 2 with fail
  rw [show (w.alloc (tabBox t)).alloc (colBox c) = w2 from HW2.out.symm]
  clear HW2 u0 u1 u2 u3 v1
  obtain ⟨f0, f1, f2, f3⟩ := col_row X2.out
  go_wp2_with fail
  refine (CN.out _).mono ?_
  rintro e w3 ⟨rfl, b3⟩
  have HB3 := Lib.hid (below_then HB2.out b3)
  have B13 := Lib.hid (below_then B12.out b3)
  have R3 := Lib.hid (row_below R2.out b3); have X3 := Lib.hid (row_below X2.out b3)
  clear b3 CN R2 HB2 f0 f1 f2 f3
  obtain ⟨f0, f1, f2, f3⟩ := col_row X3.out
  cases nz with
  | false =>
    go_wp2_with fail
    go_ret
    exact ⟨ret_int (by rw [hE.out]; simp), HB3.out⟩
  | true =>
  by_cases k0 : c.k < 0
  · have hE3 : Hid (E = 1) := by show _ = _; rw [hE.out]; simp [k0]
    go_wp2_with fail
    go_ret
    exact ⟨ret_int hE3.out.symm, HB3.out⟩
  by_cases k4 : 4 < c.k
  · have hE3 : Hid (E = 1) := by show _ = _; rw [hE.out]; simp [k4]
    go_wp2_with fail
    go_ret
    exact ⟨ret_int hE3.out.symm, HB3.out⟩
  have hE2 : Hid (E = if th = true then 5 else if mayB c.k c.t = false then 6 else if c.z = true ∧ 1 < c.k then 1 else 0) := by show _ = _; rw [hE.out]; simp [k0, k4]
  have HK : Hid (0 ≤ c.k ∧ c.k ≤ 4) := by show _ ∧ _; omega
  go_wp2_with fail
  clear hE f0 f1 f2 f3 k0 k4
  go_loopw [6] (fun v wr => ∃ k : Nat, k ≤ i ∧ v = .int .i64 k ∧ Hid (∀ j y, j < k → t.cols[j]? = some y → decide (y.nm = c.nm) = false) ∧ Hid (Below w3.heap.size w3 wr)) (fun v _ => i - (intOf v).toNat)
  case atStart => exact ⟨0, Nat.zero_le _, rfl, by show ∀ j y, _; intro j y h; exact absurd h (by omega), Below.refl _ _⟩
  case round =>
    obtain ⟨k, hk, rfl, hA, KB⟩ := hrel
    have HBr := Lib.hid (below_then HB3.out KB.out)
    obtain ⟨c0, c1, c2, c3, c4, c5⟩ := tab_row (row_below R3.out KB.out)
    obtain ⟨f0, f1, f2, f3⟩ := col_row (row_below X3.out KB.out)
    rw [HCA.out] at c1
    by_cases hlt : k < i
    · obtain ⟨b', o', y, hca', hb', hy, hld'⟩ := HC.out.col (show k < t.nc by omega)
      have ea := HCA.out.symm.trans hca'
      cases ea
      obtain ⟨e0, e1, e2, e3⟩ := hld' wr (below_then B13.out KB.out)
      have HY := Lib.hid hy
      have y3 : (k : Int) < (i : Int) := by omega
      have y2 : (0 : Int) ≤ (k : Int) := by omega
      have y4 : (k : Int) < (t.nc : Int) := by omega
      clear hld' hb' hca' hy
      obtain ⟨q, hq⟩ : ∃ q, Hid (decide (y.nm = c.nm) = q) := ⟨_, rfl⟩
      have hq2 : (y.nm.toList == c.nm.toList) = q := by rw [← hq.out]; exact str_eq _ _
      cases q with
      | true =>
        have hE5 : Hid (E = 5) := by
          show _ = _
          have : th = true := by
            rw [← hth.out, hasN, List.any_eq_true]
            exact ⟨y, List.mem_of_getElem? (i := k) (by rw [List.getElem?_take, if_pos hlt]; exact HY.out), hq.out⟩
          rw [hE2.out, if_pos this]
        go_wp2_with fail
        refine wp_region_quiet_lit (by kernel_rfl) (by kernel_rfl) ?_
        repeat (with_reducible refine wpQuiet_step (fun K hK => ?_); go_simp; first | (with_reducible refine hK _ ?_; clear hK K) | (apply Exists.intro; with_reducible refine ⟨fun _ => ?_, hK _ ?_⟩; (fail); clear hK K))
        with_reducible refine wpQuiet_nil ?_
        intro _ hw'
        obtain ⟨nq, hw''⟩ := hw'
        subst hw''
        go_wp2_with fail
        go_ret
        exact ⟨ret_int hE5.out.symm, below_drewN HBr.out nq⟩
      | false =>
        have hA2 : Hid (∀ j z, j < k + 1 → t.cols[j]? = some z → decide (z.nm = c.nm) = false) := by show ∀ j z, _; exact ahead_next (p := fun z : C4 => decide (z.nm = c.nm)) HY.out hq.out hA.out
        go_wp2_with fail
        refine wp_region_quiet_lit (by kernel_rfl) (by kernel_rfl) ?_
        repeat (with_reducible refine wpQuiet_step (fun K hK => ?_); go_simp; first | (with_reducible refine hK _ ?_; clear hK K) | (apply Exists.intro; with_reducible refine ⟨fun _ => ?_, hK _ ?_⟩; (fail); clear hK K))
        with_reducible refine wpQuiet_nil ?_
        intro _ hw'
        obtain ⟨nq, hw''⟩ := hw'
        subst hw''
        go_wp2_with fail
        exact ⟨⟨k + 1, by omega, by go_num, hA2, below_drewN KB.out nq⟩, by simp [intOf]; omega⟩
    · obtain rfl : k = i := by omega
      have hE5 : Hid (E = if mayB c.k c.t = false then 6 else if c.z = true ∧ 1 < c.k then 1 else 0) := by
        show _ = _
        have : th = false := by
          rw [← hth.out, hasN, List.any_eq_false]
          intro z hz
          obtain ⟨j, hj, rfl⟩ := List.getElem_of_mem hz
          rw [List.length_take] at hj
          rw [List.getElem_take]
          have := hA.out j _ (by omega) (List.getElem?_eq_getElem (by omega))
          rw [this]; simp
        rw [hE2.out, this]; rfl
      have y3 : ¬ (k : Int) < (k : Int) := by omega
      clear hE2 hA c0 c1 c2 c3 c4 c5
      obtain ⟨z, hz⟩ : ∃ z, Hid (c.z = z) := ⟨_, rfl⟩
      rw [hz.out] at f3 hE5
      clear hz
      have hk0 := HK.out.1
      have hk4 := HK.out.2
      generalize c.k = kk at f1 hE5 hk0 hk4
      generalize c.t = tt at f2 hE5
      rcases Decidable.em (tt = 1) with rfl | t1
      · rcases Decidable.em (kk = 4) with rfl | k4
        · go_wp2_with fail
          go_ret
          exact ⟨ret_int (by rw [hE5.out]; rfl), HBr.out⟩
        · have m1 : mayB kk 1 = true := by simp [mayB, k4]
          have e4 := beq_no k4
          have hE6 : Hid (E = if z = true ∧ 1 < kk then 1 else 0) := by show _ = _; rw [hE5.out, m1]; rfl
          clear hE5 m1
          cases z with
          | false =>
            go_wp2_with fail
            all_goals (go_ret; exact ⟨ret_int (by rw [hE6.out]; rfl), HBr.out⟩)
          | true =>
            by_cases g1 : 1 < kk
            · have hE7 : Hid (E = 1) := by show _ = _; rw [hE6.out]; simp [g1]
              go_wp2_with fail
              all_goals (go_ret; exact ⟨ret_int hE7.out.symm, HBr.out⟩)
            · have hE7 : Hid (E = 0) := by show _ = _; rw [hE6.out]; simp [g1]
              go_wp2_with fail
              all_goals (go_ret; exact ⟨ret_int hE7.out.symm, HBr.out⟩)
      rcases Decidable.em (tt = 2) with rfl | t2
      · rcases Decidable.em (kk = 2) with rfl | k2
        · go_wp2_with fail
          go_ret
          exact ⟨ret_int (by rw [hE5.out]; rfl), HBr.out⟩
        rcases Decidable.em (kk = 3) with rfl | k3
        · go_wp2_with fail
          go_ret
          exact ⟨ret_int (by rw [hE5.out]; rfl), HBr.out⟩
        · have m1 : mayB kk 2 = true := by simp [mayB, k2, k3]
          have e2 := beq_no k2; have e3 := beq_no k3
          have hE6 : Hid (E = if z = true ∧ 1 < kk then 1 else 0) := by show _ = _; rw [hE5.out, m1]; rfl
          clear hE5 m1
          cases z with
          | false =>
            go_wp2_with fail
            all_goals (go_ret; exact ⟨ret_int (by rw [hE6.out]; rfl), HBr.out⟩)
          | true =>
            by_cases g1 : 1 < kk
            · have hE7 : Hid (E = 1) := by show _ = _; rw [hE6.out]; simp [g1]
              go_wp2_with fail
              all_goals (go_ret; exact ⟨ret_int hE7.out.symm, HBr.out⟩)
            · have hE7 : Hid (E = 0) := by show _ = _; rw [hE6.out]; simp [g1]
              go_wp2_with fail
              all_goals (go_ret; exact ⟨ret_int hE7.out.symm, HBr.out⟩)
      have m1 : mayB kk tt = false := by simp [mayB, t1, t2]
      have e1 := beq_no t1; have e2 := beq_no t2
      have n1 : (tt != 1) = true := by simp [bne, e1]
      have n2 : (tt != 2) = true := by simp [bne, e2]
      have hE6 : Hid (E = 6) := by show _ = _; rw [hE5.out, m1]; rfl
      clear hE5 m1
      go_wp2_with fail
      go_ret
      exact ⟨ret_int hE6.out.symm, HBr.out⟩
end Go.Proofs.Ytogfnjlhfbpneaa
