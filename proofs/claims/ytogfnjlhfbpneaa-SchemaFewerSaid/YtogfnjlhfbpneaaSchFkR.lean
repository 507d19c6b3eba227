/- Layer 11: what is amiss in a foreign key: the document. Written by schfka.py. -/
import Derived.Test.YtogfnjlhfbpneaaSchUniq
namespace Go.Proofs.Ytogfnjlhfbpneaa
set_option maxRecDepth 100000
open Go.RowKit

set_option maxHeartbeats 12800000 in
theorem refForeignE_any (A : Option Addr) (n c : Nat) (t : T6) (i : Nat) (w : World) (h : t.Reads w) (hi : i < t.nf) :
    Calls Try.prog 58 #[.agg #[.slice A n c], t.agg, .int .i64 i] w fun e w' => e = .returned (.int .i64 (fkErr n t.cols t.fks i)) ∧ Below w.heap.size w w' := by
  obtain ⟨w1, hw1⟩ : ∃ w1, w1 = (w.alloc (schBox A n c)).alloc (tabBox t) := ⟨_, rfl⟩
  have HB1 : Hid (Below w.heap.size w w1) := by rw [hw1]; exact below_new (below_new (Below.refl _ _) _) _
  have S1 : Hid (w1.heap[w.heap.size]? = some (schBox A n c)) := by rw [hw1, Below.heap_alloc _ _ _ (by simp)]; exact heap_alloc_new _ _
  have R1 : Hid (w1.heap[w.heap.size + 1]? = some (tabBox t)) := by
    show _ = _
    rw [hw1]
    have := heap_alloc_new (w.alloc (schBox A n c)) (tabBox t)
    rwa [World.size_alloc] at this
  have hs1 : w1.heap.size = w.heap.size + 1 + 1 := by rw [hw1]; simp
  have HF := Lib.hid (h.fks.below HB1.out); have HC := Lib.hid (h.cols.below HB1.out); have HCL := Lib.hid h.cols.len
  obtain ⟨b, o, x, hfa, hb, hx, hld⟩ := HF.out.f3 hi
  have HFA := Lib.hid hfa
  have hfle := h.fks.le
  obtain ⟨w2, hw2⟩ : ∃ w2, w2 = w1.alloc (fkBox x) := ⟨_, rfl⟩
  have HW2 : Hid (w2 = ((w.alloc (schBox A n c)).alloc (tabBox t)).alloc (fkBox x)) := by show _ = _; rw [hw2, hw1]
  have B12 : Hid (Below w1.heap.size w1 w2) := by rw [hw2]; exact below_new (Below.refl _ _) _
  have HB2 : Hid (Below w.heap.size w w2) := Lib.hid (below_then HB1.out B12.out)
  have S2 := Lib.hid (row_below S1.out B12.out); have R2 := Lib.hid (row_below R1.out B12.out)
  have X2 : Hid (w2.heap[w.heap.size + 1 + 1]? = some (fkBox x)) := by show _ = _; rw [hw2, ← hs1]; exact heap_alloc_new _ _
  obtain ⟨u0, u1, u2⟩ := hld ((w.alloc (schBox A n c)).alloc (tabBox t)) (by rw [← hw1]; exact Below.refl _ _)
  have v4 := (tab_row R1.out).2.2.2.2.1
  rw [hw1, hfa] at v4
  obtain ⟨bd, hbd⟩ : ∃ bd, Hid (bindB t.nc x.a = bd) := ⟨_, rfl⟩
  obtain ⟨rg, hrg⟩ : ∃ rg, Hid (regB (colOf t.cols x.a) = rg) := ⟨_, rfl⟩
  obtain ⟨z, hz⟩ : ∃ z, Hid ((colOf t.cols x.a).z = z) := ⟨_, rfl⟩
  obtain ⟨E, hEE⟩ : ∃ E, Hid (fkErr n t.cols t.fks i = E) := ⟨_, rfl⟩
  have hE : Hid (E = if bd = false ∨ x.b < 0 ∨ (n : Int) ≤ x.b then 4 else if (0 < i ∧ x.a ≤ (t.fks.getD (i - 1) f30).a) ∨ actB x.c = false then 1 else if rg = false ∨ (z = false ∧ x.c = 2) then 6 else 0) := by
    show _ = _
    rw [← hEE.out, fkErr, getD_of hx, HCL.out, hbd.out, hrg.out, hz.out]
  rw [hEE.out]
  have CB : Hid (∀ W, Below w1.heap.size w1 W → Calls Try.prog 61 #[.agg #[.string t.nm, .slice t.ca t.nc t.cc, .slice t.ua t.nu t.uc, .slice t.ha t.nh t.hc, .slice (some ⟨b, o, none⟩) t.nf t.fc, .slice t.sa t.ns t.sc], .int .i64 x.a] W fun e w' => e = .returned (.tuple #[.bool bd, .bool (bd && rg)]) ∧ Below W.heap.size W w') := fun W hW => by rw [← hbd.out, ← hrg.out, ← hfa]; exact number_any t x.a W (HC.out.below hW)
  have y1 : (i : Int) < (t.nf : Int) := by omega
  have y0 : (0 : Int) ≤ (i : Int) := by omega
  clear h hw1 hw2 hEE hrg hfa hb hx hld hs1
  go_enter Try.func58, Try.ntmps58
  go_upto_region 2 with fail
  rw [show ((w.alloc (schBox A n c)).alloc (tabBox t)).alloc (fkBox x) = w2 from HW2.out.symm]
  clear HW2 u0 u1 u2 v4
  obtain ⟨c0, c1, c2, c3, c4, c5⟩ := tab_row R2.out
  obtain ⟨f0, f1, f2⟩ := f3_row X2.out
  have s0 := sch_row S2.out
  rw [HFA.out] at c4
  go_wp2_with fail
  refine (CB.out _ B12.out).mono ?_
  rintro e w3 ⟨rfl, b3⟩
  have HB3 := Lib.hid (below_then HB2.out b3)
  have B13 := Lib.hid (below_then B12.out b3)
  have S3 := Lib.hid (row_below S2.out b3); have R3 := Lib.hid (row_below R2.out b3); have X3 := Lib.hid (row_below X2.out b3)
  clear b3 CB B12 S2 R2 X2 HB2 c0 c1 c2 c3 c4 c5 f0 f1 f2 s0
  obtain ⟨c0, c1, c2, c3, c4, c5⟩ := tab_row R3.out
  obtain ⟨f0, f1, f2⟩ := f3_row X3.out
  have s0 := sch_row S3.out
  rw [HFA.out] at c4
  cases bd with
  | false =>
    go_wp2_with fail
    go_ret
    exact ⟨ret_int (by rw [hE.out]; simp), HB3.out⟩
  | true =>
    obtain ⟨bc, oc, hca, hbc, ⟨z0, z1⟩, hcl⟩ := HC.out.colAt hbd.out
    have HCA := Lib.hid hca; have HCLL := Lib.hid hcl
    rw [hca] at c1
    clear hca hcl hbc hbd
    by_cases hb0 : x.b < 0
    · have hE3 : Hid (E = 4) := by show _ = _; rw [hE.out]; simp [hb0]
      go_wp2_with fail
      go_ret
      exact ⟨ret_int hE3.out.symm, HB3.out⟩
    by_cases hbn : (n : Int) ≤ x.b
    · have hE3 : Hid (E = 4) := by show _ = _; rw [hE.out]; simp [hbn]
      go_wp2_with fail
      go_ret
      exact ⟨ret_int hE3.out.symm, HB3.out⟩
    have hE2 : Hid (E = if (0 < i ∧ x.a ≤ (t.fks.getD (i - 1) f30).a) ∨ actB x.c = false then 1 else if rg = false ∨ (z = false ∧ x.c = 2) then 6 else 0) := by show _ = _; rw [hE.out]; simp [hb0, hbn]
    clear hE
    by_cases hi0 : 0 < i
    · obtain ⟨b', o', y, hfa', hb', hy, hld'⟩ := HF.out.f3 (show i - 1 < t.nf by omega)
      have ea := HFA.out.symm.trans hfa'
      cases ea
      obtain ⟨e0, e1, e2⟩ := hld' w3 B13.out
      have y2 : (0 : Int) < (i : Int) := by omega
      have y3 : IntKind.i64.wrap ((i : Int) - 1) = (i : Int) - 1 := wrap_is (by omega)
      have y4 : ((i : Int) - 1).toNat = i - 1 := by omega
      have y5 : (0 : Int) ≤ (i : Int) - 1 := by omega
      have y6 : (i : Int) - 1 < (t.nf : Int) := by omega
      have y7 : (1 : Int) ≤ (i : Int) := by omega
      have y8 : decide ((0 : Int) < (i : Int)) = true := decide_eq_true y2
      have y9 : decide (0 < i) = true := decide_eq_true hi0
      have y10 : 1 ≤ i := hi0
      have hE3 : Hid (E = if x.a ≤ y.a ∨ actB x.c = false then 1 else if rg = false ∨ (z = false ∧ x.c = 2) then 6 else 0) := by
        show _ = _
        rw [hE2.out, getD_of hy]; simp [hi0]
      clear hld' hb' hfa' hy hE2
      by_cases hxy : x.a ≤ y.a
      · have hE4 : Hid (E = 1) := by show _ = _; rw [hE3.out, if_pos (.inl hxy)]
        have hxy2 : decide (x.a ≤ y.a) = true := decide_eq_true hxy
        go_wp2_with fail
        refine wp_region_quiet_lit (by kernel_rfl) (by kernel_rfl) ?_
        repeat (with_reducible refine wpQuiet_step (fun K hK => ?_); go_simp; first | (with_reducible refine hK _ ?_; clear hK K) | (apply Exists.intro; with_reducible refine ⟨fun _ => ?_, hK _ ?_⟩; (fail); clear hK K))
        with_reducible refine wpQuiet_nil ?_
        intro _ hw'
        obtain ⟨nq, hw''⟩ := hw'
        subst hw''
        go_wp2_with fail
        go_ret
        exact ⟨ret_int hE4.out.symm, below_drewN HB3.out nq⟩
      · have hxy2 : decide (x.a ≤ y.a) = false := decide_eq_false hxy
        have hE4 : Hid (E = if actB x.c = false then 1 else if rg = false ∨ (z = false ∧ x.c = 2) then 6 else 0) := by show _ = _; rw [hE3.out]; simp [hxy]
        by_cases ha0 : x.c < 0
        · have hE5 : Hid (E = 1) := by
            show _ = _
            have : actB x.c = false := by simp [actB]; omega
            rw [hE4.out, if_pos this]
          go_wp2_with fail
          refine wp_region_quiet_lit (by kernel_rfl) (by kernel_rfl) ?_
          repeat (with_reducible refine wpQuiet_step (fun K hK => ?_); go_simp; first | (with_reducible refine hK _ ?_; clear hK K) | (apply Exists.intro; with_reducible refine ⟨fun _ => ?_, hK _ ?_⟩; (fail); clear hK K))
          with_reducible refine wpQuiet_nil ?_
          intro _ hw'
          obtain ⟨nq, hw''⟩ := hw'
          subst hw''
          go_wp2_with fail
          go_ret
          exact ⟨ret_int hE5.out.symm, below_drewN HB3.out nq⟩
        by_cases ha2 : 2 < x.c
        · have hE5 : Hid (E = 1) := by
            show _ = _
            have : actB x.c = false := by simp [actB]; omega
            rw [hE4.out, if_pos this]
          go_wp2_with fail
          refine wp_region_quiet_lit (by kernel_rfl) (by kernel_rfl) ?_
          repeat (with_reducible refine wpQuiet_step (fun K hK => ?_); go_simp; first | (with_reducible refine hK _ ?_; clear hK K) | (apply Exists.intro; with_reducible refine ⟨fun _ => ?_, hK _ ?_⟩; (fail); clear hK K))
          with_reducible refine wpQuiet_nil ?_
          intro _ hw'
          obtain ⟨nq, hw''⟩ := hw'
          subst hw''
          go_wp2_with fail
          go_ret
          exact ⟨ret_int hE5.out.symm, below_drewN HB3.out nq⟩
        have hE5 : Hid (E = if rg = false ∨ (z = false ∧ x.c = 2) then 6 else 0) := by
          show _ = _
          have : ¬ actB x.c = false := by simp [actB]; omega
          rw [hE4.out, if_neg this]
        go_wp2_with fail
        refine wp_region_quiet_lit (by kernel_rfl) (by kernel_rfl) ?_
        repeat (with_reducible refine wpQuiet_step (fun K hK => ?_); go_simp; first | (with_reducible refine hK _ ?_; clear hK K) | (apply Exists.intro; with_reducible refine ⟨fun _ => ?_, hK _ ?_⟩; (fail); clear hK K))
        with_reducible refine wpQuiet_nil ?_
        intro _ hw'
        obtain ⟨nq, hw''⟩ := hw'
        subst hw''
        clear c0 c1 c2 c3 c4 c5 f0 f1 f2 s0
        have HB4 := Lib.hid (below_drewN HB3.out nq)
        obtain ⟨c0, c1, c2, c3, c4, c5⟩ := tab_row (show (w3.drewN nq).heap[w.heap.size + 1]? = some (tabBox t) from R3.out)
        obtain ⟨f0, f1, f2⟩ := f3_row (show (w3.drewN nq).heap[w.heap.size + 1 + 1]? = some (fkBox x) from X3.out)
        obtain ⟨d0, d1, d2, d3⟩ := HCLL.out (w3.drewN nq) (below_drewN B13.out nq)
        rw [HCA.out] at c1
        rw [hz.out] at d3
        clear hz
        cases rg with
        | false =>
          go_wp2_with fail
          go_ret
          exact ⟨ret_int (by rw [hE5.out]; simp), HB4.out⟩
        | true =>
          by_cases h2 : x.c = 2
          · have e2 := beq_yes h2
            have hE6 : Hid (E = if z = false then 6 else 0) := by show _ = _; rw [hE5.out]; simp [h2]
            clear h2
            cases z with
            | true =>
              go_wp2_with fail
              go_ret
              exact ⟨ret_int (by rw [hE6.out]; rfl), HB4.out⟩
            | false =>
              go_wp2_with fail
              go_ret
              exact ⟨ret_int (by rw [hE6.out]; rfl), HB4.out⟩
          · have e2 := beq_no h2
            have hE6 : Hid (E = 0) := by show _ = _; rw [hE5.out]; simp [h2]
            clear h2
            go_wp2_with fail
            go_ret
            exact ⟨ret_int hE6.out.symm, HB4.out⟩
    · obtain rfl : i = 0 := by omega
      clear y0 y1
      have hE4 : Hid (E = if actB x.c = false then 1 else if rg = false ∨ (z = false ∧ x.c = 2) then 6 else 0) := by show _ = _; rw [hE2.out]; simp
      clear hi0
      by_cases ha0 : x.c < 0
      · have hE5 : Hid (E = 1) := by
          show _ = _
          have : actB x.c = false := by simp [actB]; omega
          rw [hE4.out, if_pos this]
        go_wp2_with fail
        refine wp_region_quiet_lit (by kernel_rfl) (by kernel_rfl) ?_
        repeat (with_reducible refine wpQuiet_step (fun K hK => ?_); go_simp; first | (with_reducible refine hK _ ?_; clear hK K) | (apply Exists.intro; with_reducible refine ⟨fun _ => ?_, hK _ ?_⟩; (fail); clear hK K))
        with_reducible refine wpQuiet_nil ?_
        intro _ hw'
        obtain ⟨nq, hw''⟩ := hw'
        subst hw''
        go_wp2_with fail
        go_ret
        exact ⟨ret_int hE5.out.symm, below_drewN HB3.out nq⟩
      by_cases ha2 : 2 < x.c
      · have hE5 : Hid (E = 1) := by
          show _ = _
          have : actB x.c = false := by simp [actB]; omega
          rw [hE4.out, if_pos this]
        go_wp2_with fail
        refine wp_region_quiet_lit (by kernel_rfl) (by kernel_rfl) ?_
        repeat (with_reducible refine wpQuiet_step (fun K hK => ?_); go_simp; first | (with_reducible refine hK _ ?_; clear hK K) | (apply Exists.intro; with_reducible refine ⟨fun _ => ?_, hK _ ?_⟩; (fail); clear hK K))
        with_reducible refine wpQuiet_nil ?_
        intro _ hw'
        obtain ⟨nq, hw''⟩ := hw'
        subst hw''
        go_wp2_with fail
        go_ret
        exact ⟨ret_int hE5.out.symm, below_drewN HB3.out nq⟩
      have hE5 : Hid (E = if rg = false ∨ (z = false ∧ x.c = 2) then 6 else 0) := by
        show _ = _
        have : ¬ actB x.c = false := by simp [actB]; omega
        rw [hE4.out, if_neg this]
      go_wp2_with fail
      refine wp_region_quiet_lit (by kernel_rfl) (by kernel_rfl) ?_
      repeat (with_reducible refine wpQuiet_step (fun K hK => ?_); go_simp; first | (with_reducible refine hK _ ?_; clear hK K) | (apply Exists.intro; with_reducible refine ⟨fun _ => ?_, hK _ ?_⟩; (fail); clear hK K))
      with_reducible refine wpQuiet_nil ?_
      intro _ hw'
      obtain ⟨nq, hw''⟩ := hw'
      subst hw''
      clear c0 c1 c2 c3 c4 c5 f0 f1 f2 s0
      have HB4 := Lib.hid (below_drewN HB3.out nq)
      obtain ⟨c0, c1, c2, c3, c4, c5⟩ := tab_row (show (w3.drewN nq).heap[w.heap.size + 1]? = some (tabBox t) from R3.out)
      obtain ⟨f0, f1, f2⟩ := f3_row (show (w3.drewN nq).heap[w.heap.size + 1 + 1]? = some (fkBox x) from X3.out)
      obtain ⟨d0, d1, d2, d3⟩ := HCLL.out (w3.drewN nq) (below_drewN B13.out nq)
      rw [HCA.out] at c1
      rw [hz.out] at d3
      clear hz
      cases rg with
      | false =>
        go_wp2_with fail
        go_ret
        exact ⟨ret_int (by rw [hE5.out]; simp), HB4.out⟩
      | true =>
        by_cases h2 : x.c = 2
        · have e2 := beq_yes h2
          have hE6 : Hid (E = if z = false then 6 else 0) := by show _ = _; rw [hE5.out]; simp [h2]
          clear h2
          cases z with
          | true =>
            go_wp2_with fail
            go_ret
            exact ⟨ret_int (by rw [hE6.out]; rfl), HB4.out⟩
          | false =>
            go_wp2_with fail
            go_ret
            exact ⟨ret_int (by rw [hE6.out]; rfl), HB4.out⟩
        · have e2 := beq_no h2
          have hE6 : Hid (E = 0) := by show _ = _; rw [hE5.out]; simp [h2]
          clear h2
          go_wp2_with fail
          go_ret
          exact ⟨ret_int hE6.out.symm, HB4.out⟩
end Go.Proofs.Ytogfnjlhfbpneaa
