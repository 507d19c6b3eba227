/- Layer 11: what is amiss in a bound: the document. Written by schsum.py. -/
import Derived.Test.YtfljhnalmiibeaaGreatMbSchRefN
namespace Go.Proofs.YtfljhnalmiibeaaGreat
set_option maxRecDepth 100000
open Go.RowKit
set_option maxHeartbeats 12800000 in
theorem refSumE_any (t : T6) (i : Nat) (w : World) (h : t.Reads w) (hi : i < t.ns) :
    Calls Tryz.prog 134 #[t.agg, .int .i64 i] w fun e w' => e = .returned (.int .i64 (sumErr t.cols t.sums i)) ∧ Below w.heap.size w w' := by
  obtain ⟨w1, hw1⟩ : ∃ w1, w1 = w.alloc (tabBox t) := ⟨_, rfl⟩
  have HB1 : Hid (Below w.heap.size w w1) := by rw [hw1]; exact below_new (Below.refl _ _) _
  have R1 : Hid (w1.heap[w.heap.size]? = some (tabBox t)) := by rw [hw1]; exact heap_alloc_new _ _
  have hs1 : w1.heap.size = w.heap.size + 1 := by rw [hw1]; simp
  have HS := Lib.hid (h.sums.below HB1.out); have HC := Lib.hid (h.cols.below HB1.out); have HCL := Lib.hid h.cols.len; have HSL := Lib.hid h.sums.len
  obtain ⟨b, o, x, hfa, hb, hx, hld⟩ := HS.out.f3 hi
  have HFA := Lib.hid hfa
  have hfle := h.sums.le
  have hcap := h.sums.cap
  obtain ⟨w2, hw2⟩ : ∃ w2, w2 = w1.alloc (sumBox x) := ⟨_, rfl⟩
  have HW2 : Hid (w2 = (w.alloc (tabBox t)).alloc (sumBox x)) := by show _ = _; rw [hw2, hw1]
  have B12 : Hid (Below w1.heap.size w1 w2) := by rw [hw2]; exact below_new (Below.refl _ _) _
  have HB2 : Hid (Below w.heap.size w w2) := Lib.hid (below_then HB1.out B12.out)
  have R2 := Lib.hid (row_below R1.out B12.out)
  have X2 : Hid (w2.heap[w.heap.size + 1]? = some (sumBox x)) := by show _ = _; rw [hw2, ← hs1]; exact heap_alloc_new _ _
  obtain ⟨u0, u1, u2⟩ := hld (w.alloc (tabBox t)) (by rw [← hw1]; exact Below.refl _ _)
  have v5 := (tab_row R1.out).2.2.2.2.2
  rw [hw1, hfa] at v5
  obtain ⟨b1, hb1⟩ : ∃ b1, Hid (bindB t.nc x.a = b1) := ⟨_, rfl⟩
  obtain ⟨b2, hb2⟩ : ∃ b2, Hid (bindB t.nc x.b = b2) := ⟨_, rfl⟩
  obtain ⟨r1, hr1⟩ : ∃ r1, Hid (regB (colOf t.cols x.a) = r1) := ⟨_, rfl⟩
  obtain ⟨r2, hr2⟩ : ∃ r2, Hid (regB (colOf t.cols x.b) = r2) := ⟨_, rfl⟩
  obtain ⟨ag, hag⟩ : ∃ ag, Hid (((t.sums.take i).any fun y => decide (y.a = x.a) && decide (y.b = x.b)) = ag) := ⟨_, rfl⟩
  obtain ⟨E, hEE⟩ : ∃ E, Hid (sumErr t.cols t.sums i = E) := ⟨_, rfl⟩
  have hE : Hid (E = if b1 = false ∨ b2 = false then 4 else if x.a = x.b ∨ x.c < 0 ∨ 1099511627776 < x.c then 1 else if r1 = false ∨ r2 = false then 6 else if ag = true then 5 else 0) := by
    show _ = _
    rw [← hEE.out, sumErr, getD_of hx, HCL.out, hb1.out, hb2.out, hr1.out, hr2.out, hag.out]
  rw [hEE.out]
  have CB1 : Hid (∀ W, Below w1.heap.size w1 W → Calls Tryz.prog 163 #[.agg #[.string t.nm, .slice t.ca t.nc t.cc, .slice t.ua t.nu t.uc, .slice t.ha t.nh t.hc, .slice t.fa t.nf t.fc, .slice (some ⟨b, o, none⟩) t.ns t.sc], .int .i64 x.a] W fun e w' => e = .returned (.tuple #[.bool b1, .bool (b1 && r1)]) ∧ Below W.heap.size W w') := fun W hW => by rw [← hb1.out, ← hr1.out, ← hfa]; exact number_any t x.a W (HC.out.below hW)
  have CB2 : Hid (∀ W, Below w1.heap.size w1 W → Calls Tryz.prog 163 #[.agg #[.string t.nm, .slice t.ca t.nc t.cc, .slice t.ua t.nu t.uc, .slice t.ha t.nh t.hc, .slice t.fa t.nf t.fc, .slice (some ⟨b, o, none⟩) t.ns t.sc], .int .i64 x.b] W fun e w' => e = .returned (.tuple #[.bool b2, .bool (b2 && r2)]) ∧ Below W.heap.size W w') := fun W hW => by rw [← hb2.out, ← hr2.out, ← hfa]; exact number_any t x.b W (HC.out.below hW)
  have y1 : (i : Int) < (t.ns : Int) := by omega
  have y0 : (0 : Int) ≤ (i : Int) := by omega
  clear h hw1 hw2 hEE hr1 hr2 hfa hb hx hld hs1 hcap
  go_enter Tryz.func134, Tryz.ntmps134
  go_upto_region 2 with fail
  rw [show (w.alloc (tabBox t)).alloc (sumBox x) = w2 from HW2.out.symm]
  clear HW2 u0 u1 u2 v5
  obtain ⟨c0, c1, c2, c3, c4, c5⟩ := tab_row R2.out
  obtain ⟨f0, f1, f2⟩ := f3_row X2.out
  rw [HFA.out] at c5
  go_wp2_with fail
  refine (CB1.out _ B12.out).mono ?_
  rintro e w3 ⟨rfl, b3⟩
  have HB3 := Lib.hid (below_then HB2.out b3)
  have B23 := Lib.hid b3
  have B13 := Lib.hid (below_then B12.out b3)
  have R3 := Lib.hid (row_below R2.out b3); have X3 := Lib.hid (row_below X2.out b3)
  clear b3 CB1 R2 HB2 c0 c1 c2 c3 c4 c5 f0 f1 f2
  obtain ⟨c0, c1, c2, c3, c4, c5⟩ := tab_row R3.out
  obtain ⟨f0, f1, f2⟩ := f3_row X3.out
  rw [HFA.out] at c5
  go_wp2_with fail
  refine (CB2.out _ B13.out).mono ?_
  rintro e w4 ⟨rfl, b4⟩
  have HB4 := Lib.hid (below_then HB3.out b4)
  have B24 := Lib.hid (below_then B23.out b4)
  have B14 := Lib.hid (below_then B13.out b4)
  have R4 := Lib.hid (row_below R3.out b4); have X4 := Lib.hid (row_below X3.out b4)
  clear b4 c0 c1 c2 c3 c4 c5 f0 f1 f2
  obtain ⟨c0, c1, c2, c3, c4, c5⟩ := tab_row R4.out
  obtain ⟨f0, f1, f2⟩ := f3_row X4.out
  rw [HFA.out] at c5
  cases b1 with
  | false =>
    go_wp2_with fail
    go_ret
    exact ⟨ret_int (by rw [hE.out]; simp), HB4.out⟩
  | true =>
    cases b2 with
    | false =>
      go_wp2_with fail
      go_ret
      exact ⟨ret_int (by rw [hE.out]; simp), HB4.out⟩
    | true =>
      by_cases e1 : x.a = x.b
      · have q1 := beq_yes e1
        have hE3 : Hid (E = 1) := by show _ = _; rw [hE.out]; simp [e1]
        clear e1
        go_wp2_with fail
        go_ret
        exact ⟨ret_int hE3.out.symm, HB4.out⟩
      have q1 := beq_no e1
      by_cases e2 : x.c < 0
      · have hE3 : Hid (E = 1) := by show _ = _; rw [hE.out]; simp [e2]
        go_wp2_with fail
        go_ret
        exact ⟨ret_int hE3.out.symm, HB4.out⟩
      by_cases e3 : 1099511627776 < x.c
      · have hE3 : Hid (E = 1) := by show _ = _; rw [hE.out]; simp [e3]
        go_wp2_with fail
        go_ret
        exact ⟨ret_int hE3.out.symm, HB4.out⟩
      have hE2 : Hid (E = if r1 = false ∨ r2 = false then 6 else if ag = true then 5 else 0) := by show _ = _; rw [hE.out]; simp [e1, e2, e3]
      clear hE e1
      cases r1 with
      | false =>
        go_wp2_with fail
        go_ret
        exact ⟨ret_int (by rw [hE2.out]; simp), HB4.out⟩
      | true =>
      cases r2 with
      | false =>
        go_wp2_with fail
        go_ret
        exact ⟨ret_int (by rw [hE2.out]; simp), HB4.out⟩
      | true =>
        have hE4 : Hid (E = if ag = true then 5 else 0) := by show _ = _; rw [hE2.out]; simp
        have HAG : Hid ((t.sums.take i).any (fun y => decide (y.a = x.a) && decide (y.b = x.b)) = ag) := hag
        clear hE2 hag hb1 hb2
        go_wp2_with fail
        clear c0 c1 c2 c3 c4 c5 f0 f1 f2
        go_loopw [10] (fun v wr => ∃ k : Nat, k ≤ i ∧ v = .int .i64 k ∧ Hid (∀ j y, j < k → t.sums[j]? = some y → (decide (y.a = x.a) && decide (y.b = x.b)) = false) ∧ Hid (Below w4.heap.size w4 wr)) (fun v _ => i - (intOf v).toNat)
        case atStart => exact ⟨0, Nat.zero_le _, rfl, by show ∀ j y, _; intro j y h; exact absurd h (by omega), Below.refl _ _⟩
        case round =>
          obtain ⟨k, hk, rfl, hA, KB⟩ := hrel
          have HBr := Lib.hid (below_then HB4.out KB.out)
          obtain ⟨c0, c1, c2, c3, c4, c5⟩ := tab_row (row_below R4.out KB.out)
          obtain ⟨f0, f1, f2⟩ := f3_row (row_below X4.out KB.out)
          rw [HFA.out] at c5
          by_cases hlt : k < i
          · obtain ⟨b', o', y, hfa', hb', hy, hld'⟩ := HS.out.f3 (show k < t.ns by omega)
            have ea := HFA.out.symm.trans hfa'
            cases ea
            obtain ⟨e0, e1, e2⟩ := hld' wr (below_then B14.out KB.out)
            have HY := Lib.hid hy
            have y3 : (k : Int) < (i : Int) := by omega
            have y2 : (0 : Int) ≤ (k : Int) := by omega
            have y4 : (k : Int) < (t.ns : Int) := by omega
            clear hld' hb' hfa' hy
            by_cases ga : y.a = x.a
            · have q2 := beq_yes ga
              by_cases gb : y.b = x.b
              · have q3 := beq_yes gb
                have hE5 : Hid (E = 5) := by
                  show _ = _
                  rw [hE4.out, if_pos]
                  rw [← HAG.out, List.any_eq_true]
                  exact ⟨y, List.mem_of_getElem? (i := k) (by rw [List.getElem?_take, if_pos hlt]; exact HY.out), by simp [ga, gb]⟩
                clear ga gb
                go_wp2_with fail
                refine wp_region_quiet_lit (by kernel_rfl) (by kernel_rfl) ?_
                repeat (with_reducible refine wpQuiet_step (fun K hK => ?_); go_simp; first | (with_reducible refine hK _ ?_; clear hK K) | (apply Exists.intro; with_reducible refine ⟨fun _ => ?_, hK _ ?_⟩; (fail); clear hK K))
                with_reducible refine wpQuiet_nil ?_
                intro _ hw'
                obtain ⟨nq, hw''⟩ := hw'
                subst hw''
                go_wp2_with fail
                go_ret
                exact ⟨ret_int hE5.out.symm, below_drewN HBr.out nq⟩
              · have q3 := beq_no gb
                have hA2 : Hid (∀ j z, j < k + 1 → t.sums[j]? = some z → (decide (z.a = x.a) && decide (z.b = x.b)) = false) := by show ∀ j z, _; exact ahead_next (p := fun z : F3 => decide (z.a = x.a) && decide (z.b = x.b)) HY.out (by simp [gb]) hA.out
                clear ga gb
                go_wp2_with fail
                refine wp_region_quiet_lit (by kernel_rfl) (by kernel_rfl) ?_
                repeat (with_reducible refine wpQuiet_step (fun K hK => ?_); go_simp; first | (with_reducible refine hK _ ?_; clear hK K) | (apply Exists.intro; with_reducible refine ⟨fun _ => ?_, hK _ ?_⟩; (fail); clear hK K))
                with_reducible refine wpQuiet_nil ?_
                intro _ hw'
                obtain ⟨nq, hw''⟩ := hw'
                subst hw''
                go_wp2_with fail
                exact ⟨⟨k + 1, by omega, by go_num, hA2, below_drewN KB.out nq⟩, by simp [intOf]; omega⟩
            · have q2 := beq_no ga
              have hA2 : Hid (∀ j z, j < k + 1 → t.sums[j]? = some z → (decide (z.a = x.a) && decide (z.b = x.b)) = false) := by show ∀ j z, _; exact ahead_next (p := fun z : F3 => decide (z.a = x.a) && decide (z.b = x.b)) HY.out (by simp [ga]) hA.out
              clear ga
              go_wp2_with fail
              refine wp_region_quiet_lit (by kernel_rfl) (by kernel_rfl) ?_
              repeat (with_reducible refine wpQuiet_step (fun K hK => ?_); go_simp; first | (with_reducible refine hK _ ?_; clear hK K) | (apply Exists.intro; with_reducible refine ⟨fun _ => ?_, hK _ ?_⟩; (fail); clear hK K))
              with_reducible refine wpQuiet_nil ?_
              intro _ hw'
              obtain ⟨nq, hw''⟩ := hw'
              subst hw''
              go_wp2_with fail
              exact ⟨⟨k + 1, by omega, by go_num, hA2, below_drewN KB.out nq⟩, by simp [intOf]; omega⟩
          · obtain rfl : k = i := by omega
            have hE5 : Hid (E = 0) := by
              show _ = _
              have : ag = false := by
                rw [← HAG.out, List.any_eq_false]
                intro z hz
                obtain ⟨j, hj, rfl⟩ := List.getElem_of_mem hz
                rw [List.length_take] at hj
                rw [List.getElem_take]
                have := hA.out j _ (by omega) (List.getElem?_eq_getElem (by omega))
                rw [this]; simp
              rw [hE4.out, this]; rfl
            have y3 : ¬ (k : Int) < (k : Int) := by omega
            go_wp2_with fail
            go_ret
            exact ⟨ret_int hE5.out.symm, HBr.out⟩
end Go.Proofs.YtfljhnalmiibeaaGreat

