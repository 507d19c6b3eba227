/- Several texts laid together: SchFkA, SchSum, SchAsk. -/
import Derived.Test.YtfljhnalmiibeaaGreatMbSchRefN
namespace Go.Proofs.YtfljhnalmiibeaaGreat
set_option maxRecDepth 100000
open Go.RowKit
set_option maxHeartbeats 1600000 in
theorem knownAct_same (k : Int) (w : World) : Calls Tryz.prog 124 #[.int .i64 k] w fun e w' => e = .returned (.bool (actB k)) ∧ w' = w := by
  obtain ⟨r, hr⟩ : ∃ r, Hid (actB k = r) := ⟨_, rfl⟩
  rw [hr.out]
  go_enter Tryz.func124, Tryz.ntmps124
  rcases Decidable.em (k = 0) with rfl | h0
  · have h3 : Hid (r = true) := hr.out.symm
    go_wp2
    go_ret
    exact ⟨ret_bool h3.out.symm, rfl⟩
  rcases Decidable.em (k = 1) with rfl | h1
  · have h3 : Hid (r = true) := hr.out.symm
    go_wp2
    go_ret
    exact ⟨ret_bool h3.out.symm, rfl⟩
  rcases Decidable.em (k = 2) with rfl | h2
  · have h3 : Hid (r = true) := hr.out.symm
    go_wp2
    go_ret
    exact ⟨ret_bool h3.out.symm, rfl⟩
  have h3 : Hid (r = false) := by show _ = _; rw [← hr.out]; simp [actB, h0, h1, h2]
  have e0 := beq_no h0; have e1 := beq_no h1; have e2 := beq_no h2
  go_wp2
  go_ret
  exact ⟨ret_bool h3.out.symm, rfl⟩
set_option maxHeartbeats 12800000 in
theorem foreignAmiss_any (A : Option Addr) (n c : Nat) (t : T6) (i : Nat) (w : World) (h : t.Reads w) (hi : i < t.nf) :
    Calls Tryz.prog 93 #[.agg #[.slice A n c], t.agg, .int .i64 i] w fun e w' => e = .returned (.int .i64 (fkErr n t.cols t.fks i)) ∧ Below w.heap.size w w' := by
  obtain ⟨w1, hw1⟩ : ∃ w1, w1 = (w.alloc (schBox A n c)).alloc (tabBox t) := ⟨_, rfl⟩
  have HB1 : Hid (Below w.heap.size w w1) := by rw [hw1]; exact below_new (below_new (Below.refl _ _) _) _
  have S1 : Hid (w1.heap[w.heap.size]? = some (schBox A n c)) := by rw [hw1, Below.heap_alloc _ _ _ (by simp)]; exact heap_alloc_new _ _
  have R1 : Hid (w1.heap[w.heap.size + 1]? = some (tabBox t)) := by
    show _ = _
    rw [hw1]
    have := heap_alloc_new (w.alloc (schBox A n c)) (tabBox t)
    rwa [World.size_alloc] at this
  have hs1 : w1.heap.size = w.heap.size + 1 + 1 := by rw [hw1]; simp
  have HF := Lib.hid (h.fks.below HB1.out); have HC := Lib.hid (h.cols.below HB1.out); have HCL := Lib.hid h.cols.len
  obtain ⟨b, o, x, hfa, hb, hx, hld⟩ := HF.out.f3 hi
  have HFA := Lib.hid hfa
  have hfle := h.fks.le
  obtain ⟨w2, hw2⟩ : ∃ w2, w2 = w1.alloc (fkBox x) := ⟨_, rfl⟩
  have HW2 : Hid (w2 = ((w.alloc (schBox A n c)).alloc (tabBox t)).alloc (fkBox x)) := by show _ = _; rw [hw2, hw1]
  have B12 : Hid (Below w1.heap.size w1 w2) := by rw [hw2]; exact below_new (Below.refl _ _) _
  have HB2 : Hid (Below w.heap.size w w2) := Lib.hid (below_then HB1.out B12.out)
  have S2 := Lib.hid (row_below S1.out B12.out); have R2 := Lib.hid (row_below R1.out B12.out)
  have X2 : Hid (w2.heap[w.heap.size + 1 + 1]? = some (fkBox x)) := by show _ = _; rw [hw2, ← hs1]; exact heap_alloc_new _ _
  obtain ⟨u0, u1, u2⟩ := hld ((w.alloc (schBox A n c)).alloc (tabBox t)) (by rw [← hw1]; exact Below.refl _ _)
  have v4 := (tab_row R1.out).2.2.2.2.1
  rw [hw1, hfa] at v4
  obtain ⟨bd, hbd⟩ : ∃ bd, Hid (bindB t.nc x.a = bd) := ⟨_, rfl⟩
  obtain ⟨rg, hrg⟩ : ∃ rg, Hid (regB (colOf t.cols x.a) = rg) := ⟨_, rfl⟩
  obtain ⟨z, hz⟩ : ∃ z, Hid ((colOf t.cols x.a).z = z) := ⟨_, rfl⟩
  obtain ⟨E, hEE⟩ : ∃ E, Hid (fkErr n t.cols t.fks i = E) := ⟨_, rfl⟩
  have hE : Hid (E = if bd = false ∨ x.b < 0 ∨ (n : Int) ≤ x.b then 4 else if (0 < i ∧ x.a ≤ (t.fks.getD (i - 1) f30).a) ∨ actB x.c = false then 1 else if rg = false ∨ (z = false ∧ x.c = 2) then 6 else 0) := by
    show _ = _
    rw [← hEE.out, fkErr, getD_of hx, HCL.out, hbd.out, hrg.out, hz.out]
  rw [hEE.out]
  have CB : Hid (∀ W, Calls Tryz.prog 123 #[.agg #[.string t.nm, .slice t.ca t.nc t.cc, .slice t.ua t.nu t.uc, .slice t.ha t.nh t.hc, .slice (some ⟨b, o, none⟩) t.nf t.fc, .slice t.sa t.ns t.sc], .int .i64 x.a] W fun e w' => e = .returned (.bool bd) ∧ Below W.heap.size W w') := fun W => by rw [← hbd.out, ← hfa]; exact bindable_any t x.a W
  have CR : Hid (∀ W, Calls Tryz.prog 122 #[.agg #[.string (colOf t.cols x.a).nm, .int .i64 (colOf t.cols x.a).k, .int .i64 (colOf t.cols x.a).t, .bool z]] W fun e w' => e = .returned (.bool rg) ∧ Below W.heap.size W w') := fun W => by rw [← hrg.out, ← hz.out]; exact register_any _ W
  have y1 : (i : Int) < (t.nf : Int) := by omega
  have y0 : (0 : Int) ≤ (i : Int) := by omega
  clear h hw1 hw2 hEE hrg hfa hb hx hld hs1
  go_enter Tryz.func93, Tryz.ntmps93
  go_upto_region 2 with fail
  rw [show ((w.alloc (schBox A n c)).alloc (tabBox t)).alloc (fkBox x) = w2 from HW2.out.symm]
  clear HW2 u0 u1 u2 v4
  obtain ⟨c0, c1, c2, c3, c4, c5⟩ := tab_row R2.out
  obtain ⟨f0, f1, f2⟩ := f3_row X2.out
  have s0 := sch_row S2.out
  rw [HFA.out] at c4
  go_wp2_with fail
  refine (CB.out _).mono ?_
  rintro e w3 ⟨rfl, b3⟩
  have HB3 := Lib.hid (below_then HB2.out b3)
  have B13 := Lib.hid (below_then B12.out b3)
  have S3 := Lib.hid (row_below S2.out b3); have R3 := Lib.hid (row_below R2.out b3); have X3 := Lib.hid (row_below X2.out b3)
  clear b3 CB B12 S2 R2 X2 HB2 c0 c1 c2 c3 c4 c5 f0 f1 f2 s0
  obtain ⟨c0, c1, c2, c3, c4, c5⟩ := tab_row R3.out
  obtain ⟨f0, f1, f2⟩ := f3_row X3.out
  have s0 := sch_row S3.out
  rw [HFA.out] at c4
  cases bd with
  | false =>
    go_wp2_with fail
    go_ret
    exact ⟨ret_int (by rw [hE.out]; simp), HB3.out⟩
  | true =>
    obtain ⟨bc, oc, hca, hbc, ⟨z0, z1⟩, hcl⟩ := HC.out.colAt hbd.out
    have HCA := Lib.hid hca; have HCLL := Lib.hid hcl
    rw [hca] at c1
    clear hca hcl hbc hbd
    by_cases hb0 : x.b < 0
    · have hE3 : Hid (E = 4) := by show _ = _; rw [hE.out]; simp [hb0]
      go_wp2_with fail
      go_ret
      exact ⟨ret_int hE3.out.symm, HB3.out⟩
    by_cases hbn : (n : Int) ≤ x.b
    · have hE3 : Hid (E = 4) := by show _ = _; rw [hE.out]; simp [hbn]
      go_wp2_with fail
      go_ret
      exact ⟨ret_int hE3.out.symm, HB3.out⟩
    have hE2 : Hid (E = if (0 < i ∧ x.a ≤ (t.fks.getD (i - 1) f30).a) ∨ actB x.c = false then 1 else if rg = false ∨ (z = false ∧ x.c = 2) then 6 else 0) := by show _ = _; rw [hE.out]; simp [hb0, hbn]
    clear hE
    by_cases hi0 : 0 < i
    · obtain ⟨b', o', y, hfa', hb', hy, hld'⟩ := HF.out.f3 (show i - 1 < t.nf by omega)
      have ea := HFA.out.symm.trans hfa'
      cases ea
      obtain ⟨e0, e1, e2⟩ := hld' w3 B13.out
      have y2 : (0 : Int) < (i : Int) := by omega
      have y3 : IntKind.i64.wrap ((i : Int) - 1) = (i : Int) - 1 := wrap_is (by omega)
      have y4 : ((i : Int) - 1).toNat = i - 1 := by omega
      have y5 : (0 : Int) ≤ (i : Int) - 1 := by omega
      have y6 : (i : Int) - 1 < (t.nf : Int) := by omega
      have y7 : (1 : Int) ≤ (i : Int) := by omega
      have y8 : decide ((0 : Int) < (i : Int)) = true := decide_eq_true y2
      have y9 : decide (0 < i) = true := decide_eq_true hi0
      have y10 : 1 ≤ i := hi0
      have hE3 : Hid (E = if x.a ≤ y.a ∨ actB x.c = false then 1 else if rg = false ∨ (z = false ∧ x.c = 2) then 6 else 0) := by
        show _ = _
        rw [hE2.out, getD_of hy]; simp [hi0]
      clear hld' hb' hfa' hy hE2
      by_cases hxy : x.a ≤ y.a
      · have hE4 : Hid (E = 1) := by show _ = _; rw [hE3.out, if_pos (.inl hxy)]
        have hxy2 : decide (x.a ≤ y.a) = true := decide_eq_true hxy
        go_wp2_with fail
        refine wp_region_quiet_lit (by kernel_rfl) (by kernel_rfl) ?_
        repeat (with_reducible refine wpQuiet_step (fun K hK => ?_); go_simp; first | (with_reducible refine hK _ ?_; clear hK K) | (apply Exists.intro; with_reducible refine ⟨fun _ => ?_, hK _ ?_⟩; (fail); clear hK K))
        with_reducible refine wpQuiet_nil ?_
        intro _ hw'
        obtain ⟨nq, hw''⟩ := hw'
        subst hw''
        go_wp2_with fail
        go_ret
        exact ⟨ret_int hE4.out.symm, below_drewN HB3.out nq⟩
      · have hxy2 : decide (x.a ≤ y.a) = false := decide_eq_false hxy
        have hE4 : Hid (E = if actB x.c = false then 1 else if rg = false ∨ (z = false ∧ x.c = 2) then 6 else 0) := by show _ = _; rw [hE3.out]; simp [hxy]
        obtain ⟨ak, hak⟩ : ∃ ak, Hid (actB x.c = ak) := ⟨_, rfl⟩
        have CA : Hid (∀ W, Calls Tryz.prog 124 #[.int .i64 x.c] W fun e w' => e = .returned (.bool ak) ∧ w' = W) := fun W => by rw [← hak.out]; exact knownAct_same x.c W
        rw [hak.out] at hE4
        clear hak
        go_wp2_with fail
        refine wp_region_quiet_lit (by kernel_rfl) (by kernel_rfl) ?_
        repeat (with_reducible refine wpQuiet_step (fun K hK => ?_); go_simp; first | (with_reducible refine hK _ ?_; clear hK K) | (apply Exists.intro; with_reducible refine ⟨fun _ => ?_, hK _ ?_⟩; ((go_at_call 124; refine Calls.quiet_of_same (CA.out _))); clear hK K))
        with_reducible refine wpQuiet_nil ?_
        intro _ hw'
        obtain ⟨nq, hw''⟩ := hw'
        subst hw''
        clear c0 c1 c2 c3 c4 c5 f0 f1 f2 s0 CA
        cases ak with
        | false =>
          have hE5 : Hid (E = 1) := by show _ = _; rw [hE4.out]; rfl
          go_wp2_with fail
          go_ret
          exact ⟨ret_int hE5.out.symm, below_drewN HB3.out nq⟩
        | true =>
          have hE5 : Hid (E = if rg = false ∨ (z = false ∧ x.c = 2) then 6 else 0) := by show _ = _; rw [hE4.out]; rfl
          have HB4 := Lib.hid (below_drewN HB3.out nq)
          obtain ⟨c0, c1, c2, c3, c4, c5⟩ := tab_row (show (w3.drewN nq).heap[w.heap.size + 1]? = some (tabBox t) from R3.out)
          obtain ⟨f0, f1, f2⟩ := f3_row (show (w3.drewN nq).heap[w.heap.size + 1 + 1]? = some (fkBox x) from X3.out)
          obtain ⟨d0, d1, d2, d3⟩ := HCLL.out (w3.drewN nq) (below_drewN B13.out nq)
          rw [HCA.out] at c1
          rw [hz.out] at d3
          have hzz := hz; clear hz
          go_wp2_with fail
          refine (CR.out _).mono ?_
          rintro e w5 ⟨rfl, b5⟩
          have HB5 := Lib.hid (below_then HB4.out b5)
          have R5 := Lib.hid (row_below (show (w3.drewN nq).heap[w.heap.size + 1]? = some (tabBox t) from R3.out) b5)
          have X5 := Lib.hid (row_below (show (w3.drewN nq).heap[w.heap.size + 1 + 1]? = some (fkBox x) from X3.out) b5)
          have B15 := Lib.hid (below_then (below_drewN B13.out nq) b5)
          obtain ⟨d0, d1, d2, d3⟩ := HCLL.out w5 B15.out
          clear b5 CR c0 c1 c2 c3 c4 c5 f0 f1 f2
          obtain ⟨c0, c1, c2, c3, c4, c5⟩ := tab_row R5.out
          obtain ⟨f0, f1, f2⟩ := f3_row X5.out
          rw [HCA.out] at c1
          cases rg with
          | false =>
            go_wp2_with fail
            go_ret
            exact ⟨ret_int (by rw [hE5.out]; simp), HB5.out⟩
          | true =>
            rw [hzz.out] at d3
            cases z with
            | true =>
              go_wp2_with fail
              go_ret
              exact ⟨ret_int (by rw [hE5.out]; simp), HB5.out⟩
            | false =>
              by_cases h2 : x.c = 2
              · have e2 := beq_yes h2
                have hE6 : Hid (E = 6) := by show _ = _; rw [hE5.out]; simp [h2]
                clear h2
                go_wp2_with fail
                go_ret
                exact ⟨ret_int hE6.out.symm, HB5.out⟩
              · have e2 := beq_no h2
                have hE6 : Hid (E = 0) := by show _ = _; rw [hE5.out]; simp [h2]
                clear h2
                go_wp2_with fail
                go_ret
                exact ⟨ret_int hE6.out.symm, HB5.out⟩
    · obtain rfl : i = 0 := by omega
      clear y0 y1
      have hE4 : Hid (E = if actB x.c = false then 1 else if rg = false ∨ (z = false ∧ x.c = 2) then 6 else 0) := by show _ = _; rw [hE2.out]; simp
      clear hi0
      obtain ⟨ak, hak⟩ : ∃ ak, Hid (actB x.c = ak) := ⟨_, rfl⟩
      have CA : Hid (∀ W, Calls Tryz.prog 124 #[.int .i64 x.c] W fun e w' => e = .returned (.bool ak) ∧ w' = W) := fun W => by rw [← hak.out]; exact knownAct_same x.c W
      rw [hak.out] at hE4
      clear hak
      go_wp2_with fail
      refine wp_region_quiet_lit (by kernel_rfl) (by kernel_rfl) ?_
      repeat (with_reducible refine wpQuiet_step (fun K hK => ?_); go_simp; first | (with_reducible refine hK _ ?_; clear hK K) | (apply Exists.intro; with_reducible refine ⟨fun _ => ?_, hK _ ?_⟩; ((go_at_call 124; refine Calls.quiet_of_same (CA.out _))); clear hK K))
      with_reducible refine wpQuiet_nil ?_
      intro _ hw'
      obtain ⟨nq, hw''⟩ := hw'
      subst hw''
      clear c0 c1 c2 c3 c4 c5 f0 f1 f2 s0 CA
      cases ak with
      | false =>
        have hE5 : Hid (E = 1) := by show _ = _; rw [hE4.out]; rfl
        go_wp2_with fail
        go_ret
        exact ⟨ret_int hE5.out.symm, below_drewN HB3.out nq⟩
      | true =>
        have hE5 : Hid (E = if rg = false ∨ (z = false ∧ x.c = 2) then 6 else 0) := by show _ = _; rw [hE4.out]; rfl
        have HB4 := Lib.hid (below_drewN HB3.out nq)
        obtain ⟨c0, c1, c2, c3, c4, c5⟩ := tab_row (show (w3.drewN nq).heap[w.heap.size + 1]? = some (tabBox t) from R3.out)
        obtain ⟨f0, f1, f2⟩ := f3_row (show (w3.drewN nq).heap[w.heap.size + 1 + 1]? = some (fkBox x) from X3.out)
        obtain ⟨d0, d1, d2, d3⟩ := HCLL.out (w3.drewN nq) (below_drewN B13.out nq)
        rw [HCA.out] at c1
        rw [hz.out] at d3
        have hzz := hz; clear hz
        go_wp2_with fail
        refine (CR.out _).mono ?_
        rintro e w5 ⟨rfl, b5⟩
        have HB5 := Lib.hid (below_then HB4.out b5)
        have R5 := Lib.hid (row_below (show (w3.drewN nq).heap[w.heap.size + 1]? = some (tabBox t) from R3.out) b5)
        have X5 := Lib.hid (row_below (show (w3.drewN nq).heap[w.heap.size + 1 + 1]? = some (fkBox x) from X3.out) b5)
        have B15 := Lib.hid (below_then (below_drewN B13.out nq) b5)
        obtain ⟨d0, d1, d2, d3⟩ := HCLL.out w5 B15.out
        clear b5 CR c0 c1 c2 c3 c4 c5 f0 f1 f2
        obtain ⟨c0, c1, c2, c3, c4, c5⟩ := tab_row R5.out
        obtain ⟨f0, f1, f2⟩ := f3_row X5.out
        rw [HCA.out] at c1
        cases rg with
        | false =>
          go_wp2_with fail
          go_ret
          exact ⟨ret_int (by rw [hE5.out]; simp), HB5.out⟩
        | true =>
          rw [hzz.out] at d3
          cases z with
          | true =>
            go_wp2_with fail
            go_ret
            exact ⟨ret_int (by rw [hE5.out]; simp), HB5.out⟩
          | false =>
            by_cases h2 : x.c = 2
            · have e2 := beq_yes h2
              have hE6 : Hid (E = 6) := by show _ = _; rw [hE5.out]; simp [h2]
              clear h2
              go_wp2_with fail
              go_ret
              exact ⟨ret_int hE6.out.symm, HB5.out⟩
            · have e2 := beq_no h2
              have hE6 : Hid (E = 0) := by show _ = _; rw [hE5.out]; simp [h2]
              clear h2
              go_wp2_with fail
              go_ret
              exact ⟨ret_int hE6.out.symm, HB5.out⟩
end Go.Proofs.YtfljhnalmiibeaaGreat

namespace Go.Proofs.YtfljhnalmiibeaaGreat
set_option maxRecDepth 100000
open Go.RowKit
theorem run_uptoSum {A : Option Addr} {n c m : Nat} (h : m ≤ c) (W : World) : (Instr.slice 64 (.slice A n c) none (some (.int .i64 m)) none).run Tryz.prog W = .ok (.slice A m c) W := by
  have hz : (sizeOf (Tryz.prog.elem 64)).run Tryz.prog W = .ok 3 W := by kernel_rfl
  have ht : Tryz.prog.underlying 64 = some (.slice (Tryz.prog.elem 64)) := by kernel_rfl
  rw [run_slice_h (P := Tryz.prog) (w := W) (t := 64) (a := A) (len := n) (cap := c) (ht := ht) (kh := .i64) (h := m) (h0 := by omega) (h2 := by omega), hz]
  have ha : A.map (·.add (0 * 3)) = A := by cases A <;> simp [Addr.add]
  simp only [Result.andThen, sliced, ha, Int.toNat_natCast, Nat.sub_zero, ite_self]
set_option maxHeartbeats 12800000 in
theorem sumAmiss_any (t : T6) (i : Nat) (w : World) (h : t.Reads w) (hi : i < t.ns) :
    Calls Tryz.prog 95 #[t.agg, .int .i64 i] w fun e w' => e = .returned (.int .i64 (sumErr t.cols t.sums i)) ∧ Below w.heap.size w w' := by
  obtain ⟨w1, hw1⟩ : ∃ w1, w1 = w.alloc (tabBox t) := ⟨_, rfl⟩
  have HB1 : Hid (Below w.heap.size w w1) := by rw [hw1]; exact below_new (Below.refl _ _) _
  have R1 : Hid (w1.heap[w.heap.size]? = some (tabBox t)) := by rw [hw1]; exact heap_alloc_new _ _
  have hs1 : w1.heap.size = w.heap.size + 1 := by rw [hw1]; simp
  have HS := Lib.hid (h.sums.below HB1.out); have HC := Lib.hid (h.cols.below HB1.out); have HCL := Lib.hid h.cols.len; have HSL := Lib.hid h.sums.len
  obtain ⟨b, o, x, hfa, hb, hx, hld⟩ := HS.out.f3 hi
  have HFA := Lib.hid hfa
  have hfle := h.sums.le
  have hcap := h.sums.cap
  obtain ⟨w2, hw2⟩ : ∃ w2, w2 = w1.alloc (sumBox x) := ⟨_, rfl⟩
  have HW2 : Hid (w2 = (w.alloc (tabBox t)).alloc (sumBox x)) := by show _ = _; rw [hw2, hw1]
  have B12 : Hid (Below w1.heap.size w1 w2) := by rw [hw2]; exact below_new (Below.refl _ _) _
  have HB2 : Hid (Below w.heap.size w w2) := Lib.hid (below_then HB1.out B12.out)
  have R2 := Lib.hid (row_below R1.out B12.out)
  have X2 : Hid (w2.heap[w.heap.size + 1]? = some (sumBox x)) := by show _ = _; rw [hw2, ← hs1]; exact heap_alloc_new _ _
  obtain ⟨u0, u1, u2⟩ := hld (w.alloc (tabBox t)) (by rw [← hw1]; exact Below.refl _ _)
  have v5 := (tab_row R1.out).2.2.2.2.2
  rw [hw1, hfa] at v5
  obtain ⟨b1, hb1⟩ : ∃ b1, Hid (bindB t.nc x.a = b1) := ⟨_, rfl⟩
  obtain ⟨b2, hb2⟩ : ∃ b2, Hid (bindB t.nc x.b = b2) := ⟨_, rfl⟩
  obtain ⟨r1, hr1⟩ : ∃ r1, Hid (regB (colOf t.cols x.a) = r1) := ⟨_, rfl⟩
  obtain ⟨r2, hr2⟩ : ∃ r2, Hid (regB (colOf t.cols x.b) = r2) := ⟨_, rfl⟩
  obtain ⟨ag, hag⟩ : ∃ ag, Hid (((t.sums.take i).any fun y => decide (y.a = x.a) && decide (y.b = x.b)) = ag) := ⟨_, rfl⟩
  obtain ⟨E, hEE⟩ : ∃ E, Hid (sumErr t.cols t.sums i = E) := ⟨_, rfl⟩
  have hE : Hid (E = if b1 = false ∨ b2 = false then 4 else if x.a = x.b ∨ x.c < 0 ∨ 1099511627776 < x.c then 1 else if r1 = false ∨ r2 = false then 6 else if ag = true then 5 else 0) := by
    show _ = _
    rw [← hEE.out, sumErr, getD_of hx, HCL.out, hb1.out, hb2.out, hr1.out, hr2.out, hag.out]
  rw [hEE.out]
  have CB1 : Hid (∀ W, Calls Tryz.prog 123 #[.agg #[.string t.nm, .slice t.ca t.nc t.cc, .slice t.ua t.nu t.uc, .slice t.ha t.nh t.hc, .slice t.fa t.nf t.fc, .slice (some ⟨b, o, none⟩) t.ns t.sc], .int .i64 x.a] W fun e w' => e = .returned (.bool b1) ∧ Below W.heap.size W w') := fun W => by rw [← hb1.out, ← hfa]; exact bindable_any t x.a W
  have CB2 : Hid (∀ W, Calls Tryz.prog 123 #[.agg #[.string t.nm, .slice t.ca t.nc t.cc, .slice t.ua t.nu t.uc, .slice t.ha t.nh t.hc, .slice t.fa t.nf t.fc, .slice (some ⟨b, o, none⟩) t.ns t.sc], .int .i64 x.b] W fun e w' => e = .returned (.bool b2) ∧ Below W.heap.size W w') := fun W => by rw [← hb2.out, ← hfa]; exact bindable_any t x.b W
  have CR1 : Hid (∀ W, Calls Tryz.prog 122 #[(colOf t.cols x.a).agg] W fun e w' => e = .returned (.bool r1) ∧ Below W.heap.size W w') := fun W => by rw [← hr1.out]; exact register_any _ W
  have CR2 : Hid (∀ W, Calls Tryz.prog 122 #[(colOf t.cols x.b).agg] W fun e w' => e = .returned (.bool r2) ∧ Below W.heap.size W w') := fun W => by rw [← hr2.out]; exact register_any _ W
  have CC : Hid (∀ W, Below w2.heap.size w2 W → Calls Tryz.prog 126 #[.slice (some ⟨b, o, none⟩) i t.sc, .func (.func 125) #[] #[.pointer (some ⟨w.heap.size + 1, 0, none⟩)]] W fun e w' => e = .returned (.bool ag) ∧ Below W.heap.size W w') := fun W hW => by
    rw [← hag.out, ← hfa]
    have hr := (HS.out.upto (Nat.le_of_lt hi) (Nat.le_trans (Nat.le_of_lt hi) hcap) (Nat.le_refl t.sc)).below (B12.out.trans (hW.mono B12.out.size))
    exact contains_any 125 _ _ t.sa i t.sc (t.sums.take i) W Tryz.egCloF hr (cloF_any x (w.heap.size + 1) W (row_below X2.out hW))
  have SL := fun W => run_uptoSum (A := some ⟨b, o, none⟩) (n := t.ns) (c := t.sc) (m := i) (Nat.le_trans (Nat.le_of_lt hi) hcap) W
  have y1 : (i : Int) < (t.ns : Int) := by omega
  have y0 : (0 : Int) ≤ (i : Int) := by omega
  clear h hw1 hw2 hEE hr1 hr2 hag hfa hb hx hld hs1 hcap
  go_enter Tryz.func95, Tryz.ntmps95
  go_upto_region 2 with fail
  rw [show (w.alloc (tabBox t)).alloc (sumBox x) = w2 from HW2.out.symm]
  clear HW2 u0 u1 u2 v5
  obtain ⟨c0, c1, c2, c3, c4, c5⟩ := tab_row R2.out
  obtain ⟨f0, f1, f2⟩ := f3_row X2.out
  rw [HFA.out] at c5
  go_wp2_with fail
  refine (CB1.out _).mono ?_
  rintro e w3 ⟨rfl, b3⟩
  have HB3 := Lib.hid (below_then HB2.out b3)
  have B23 := Lib.hid b3
  have B13 := Lib.hid (below_then B12.out b3)
  have R3 := Lib.hid (row_below R2.out b3); have X3 := Lib.hid (row_below X2.out b3)
  clear b3 CB1 R2 HB2 c0 c1 c2 c3 c4 c5 f0 f1 f2
  obtain ⟨c0, c1, c2, c3, c4, c5⟩ := tab_row R3.out
  obtain ⟨f0, f1, f2⟩ := f3_row X3.out
  rw [HFA.out] at c5
  cases b1 with
  | false =>
    go_wp2_with fail
    go_ret
    exact ⟨ret_int (by rw [hE.out]; simp), HB3.out⟩
  | true =>
    go_wp2_with fail
    refine (CB2.out _).mono ?_
    rintro e w4 ⟨rfl, b4⟩
    have HB4 := Lib.hid (below_then HB3.out b4)
    have B24 := Lib.hid (below_then B23.out b4)
    have B14 := Lib.hid (below_then B13.out b4)
    have R4 := Lib.hid (row_below R3.out b4); have X4 := Lib.hid (row_below X3.out b4)
    clear b4 c0 c1 c2 c3 c4 c5 f0 f1 f2
    obtain ⟨c0, c1, c2, c3, c4, c5⟩ := tab_row R4.out
    obtain ⟨f0, f1, f2⟩ := f3_row X4.out
    rw [HFA.out] at c5
    cases b2 with
    | false =>
      go_wp2_with fail
      go_ret
      exact ⟨ret_int (by rw [hE.out]; simp), HB4.out⟩
    | true =>
      obtain ⟨bc, oc, hca, hbc, ⟨z0, z1⟩, hcl⟩ := HC.out.colAt hb1.out
      obtain ⟨bc', oc', hca', hbc', ⟨z2, z3⟩, hcl'⟩ := HC.out.colAt hb2.out
      have HCA := Lib.hid hca
      have HL1 := Lib.hid hcl; have HL2 := Lib.hid hcl'
      rw [hca] at hca'
      cases hca'
      clear hca hcl hcl' hbc hbc' hb1 hb2
      by_cases e1 : x.a = x.b
      · have q1 := beq_yes e1
        have hE3 : Hid (E = 1) := by show _ = _; rw [hE.out]; simp [e1]
        clear e1
        go_wp2_with fail
        go_ret
        exact ⟨ret_int hE3.out.symm, HB4.out⟩
      have q1 := beq_no e1
      by_cases e2 : x.c < 0
      · have hE3 : Hid (E = 1) := by show _ = _; rw [hE.out]; simp [e2]
        go_wp2_with fail
        go_ret
        exact ⟨ret_int hE3.out.symm, HB4.out⟩
      by_cases e3 : 1099511627776 < x.c
      · have hE3 : Hid (E = 1) := by show _ = _; rw [hE.out]; simp [e3]
        go_wp2_with fail
        go_ret
        exact ⟨ret_int hE3.out.symm, HB4.out⟩
      have hE2 : Hid (E = if r1 = false ∨ r2 = false then 6 else if ag = true then 5 else 0) := by show _ = _; rw [hE.out]; simp [e1, e2, e3]
      clear hE e1
      obtain ⟨d0, d1, d2, d3⟩ := HL1.out w4 B14.out
      rw [HCA.out] at c1
      go_wp2_with fail
      refine (CR1.out _).mono ?_
      rintro e w5 ⟨rfl, b5⟩
      have HB5 := Lib.hid (below_then HB4.out b5)
      have B25 := Lib.hid (below_then B24.out b5)
      have B15 := Lib.hid (below_then B14.out b5)
      have R5 := Lib.hid (row_below R4.out b5); have X5 := Lib.hid (row_below X4.out b5)
      clear b5 c0 c1 c2 c3 c4 c5 f0 f1 f2
      obtain ⟨c0, c1, c2, c3, c4, c5⟩ := tab_row R5.out
      obtain ⟨f0, f1, f2⟩ := f3_row X5.out
      rw [HFA.out] at c5
      clear d0 d1 d2 d3
      obtain ⟨d0, d1, d2, d3⟩ := HL2.out w5 B15.out
      rw [HCA.out] at c1
      cases r1 with
      | false =>
        go_wp2_with fail
        go_ret
        exact ⟨ret_int (by rw [hE2.out]; simp), HB5.out⟩
      | true =>
        go_wp2_with fail
        refine (CR2.out _).mono ?_
        rintro e w6 ⟨rfl, b6⟩
        have HB6 := Lib.hid (below_then HB5.out b6)
        have B26 := Lib.hid (below_then B25.out b6)
        have B16 := Lib.hid (below_then B15.out b6)
        have R6 := Lib.hid (row_below R5.out b6); have X6 := Lib.hid (row_below X5.out b6)
        clear b6 c0 c1 c2 c3 c4 c5 f0 f1 f2
        obtain ⟨c0, c1, c2, c3, c4, c5⟩ := tab_row R6.out
        obtain ⟨f0, f1, f2⟩ := f3_row X6.out
        rw [HFA.out] at c5
        clear d0 d1 d2 d3
        cases r2 with
        | false =>
          go_wp2_with fail
          go_ret
          exact ⟨ret_int (by rw [hE2.out]; simp), HB6.out⟩
        | true =>
          have CC2 := Lib.hid (CC.out w6 B26.out)
          go_wp2_with fail
          refine (CC2.out).mono ?_
          rintro e w7 ⟨rfl, b7⟩
          have HB7 := Lib.hid (below_then HB6.out b7)
          have B27 := Lib.hid (below_then B26.out b7)
          have B17 := Lib.hid (below_then B16.out b7)
          have R7 := Lib.hid (row_below R6.out b7); have X7 := Lib.hid (row_below X6.out b7)
          clear b7 c0 c1 c2 c3 c4 c5 f0 f1 f2
          obtain ⟨c0, c1, c2, c3, c4, c5⟩ := tab_row R7.out
          obtain ⟨f0, f1, f2⟩ := f3_row X7.out
          rw [HFA.out] at c5
          cases ag with
          | false =>
            go_wp2_with fail
            go_ret
            exact ⟨ret_int (by rw [hE2.out]; simp), HB7.out⟩
          | true =>
            go_wp2_with fail
            go_ret
            exact ⟨ret_int (by rw [hE2.out]; simp), HB7.out⟩
end Go.Proofs.YtfljhnalmiibeaaGreat

namespace Go.Proofs.YtfljhnalmiibeaaGreat
set_option maxRecDepth 100000
open Go.RowKit
/-- a closure over a place tells what is amiss there, in every world behind w0 -/
def AskC (P : Program) (g : Nat) (cb : Array Value) (m : Nat) (f : Nat → Int) (w0 : World) : Prop :=
  ∀ W, Below w0.heap.size w0 W → ∀ i : Nat, i < m → Calls P g (#[.int .i64 i] ++ cb) W fun e W' => e = .returned (.int .i64 (f i)) ∧ Below W.heap.size W W'
theorem run_uptoTab {A : Option Addr} {n c m : Nat} (h : m ≤ c) (W : World) : (Instr.slice 22 (.slice A n c) none (some (.int .i64 m)) none).run Tryz.prog W = .ok (.slice A m c) W := by
  have hz : (sizeOf (Tryz.prog.elem 22)).run Tryz.prog W = .ok 6 W := by kernel_rfl
  have ht : Tryz.prog.underlying 22 = some (.slice (Tryz.prog.elem 22)) := by kernel_rfl
  rw [run_slice_h (P := Tryz.prog) (w := W) (t := 22) (a := A) (len := n) (cap := c) (ht := ht) (kh := .i64) (h := m) (h0 := by omega) (h2 := by omega), hz]
  have ha : A.map (·.add (0 * 6)) = A := by cases A <;> simp [Addr.add]
  simp only [Result.andThen, sliced, ha, Int.toNat_natCast, Nat.sub_zero, ite_self]
theorem run_uptoCol {A : Option Addr} {n c m : Nat} (h : m ≤ c) (W : World) : (Instr.slice 60 (.slice A n c) none (some (.int .i64 m)) none).run Tryz.prog W = .ok (.slice A m c) W := by
  have hz : (sizeOf (Tryz.prog.elem 60)).run Tryz.prog W = .ok 4 W := by kernel_rfl
  have ht : Tryz.prog.underlying 60 = some (.slice (Tryz.prog.elem 60)) := by kernel_rfl
  rw [run_slice_h (P := Tryz.prog) (w := W) (t := 60) (a := A) (len := n) (cap := c) (ht := ht) (kh := .i64) (h := m) (h0 := by omega) (h2 := by omega), hz]
  have ha : A.map (·.add (0 * 4)) = A := by cases A <;> simp [Addr.add]
  simp only [Result.andThen, sliced, ha, Int.toNat_natCast, Nat.sub_zero, ite_self]
set_option maxHeartbeats 3200000 in
theorem ask1_any (A : Option Addr) (n c k : Nat) (l : List T6) (t : T6) (gs gi gt : Nat) (w0 : World) (h : RdS11 w0 A n c l) (hk : k < n) (hs : w0.heap[gs]? = some (schBox A n c)) (hi : w0.heap[gi]? = some (.cells #[.int .i64 k] 3)) (ht : w0.heap[gt]? = some (tabBox t)) :
    AskC Tryz.prog 82 #[.pointer (some ⟨gs, 0, none⟩), .pointer (some ⟨gi, 0, none⟩), .pointer (some ⟨gt, 0, none⟩)] 1 (fun _ => nameErr (l.take k) t.nm) w0 := by
  intro W0 hW i _
  have HR := Lib.hid (h.below hW)
  have HC := Lib.hid (h.row.cap)
  obtain ⟨E, hE⟩ : ∃ E, Hid (nameErr (l.take k) t.nm = E) := ⟨_, rfl⟩
  have C : Hid (∀ W, Below W0.heap.size W0 W → Calls Tryz.prog 83 #[.slice A k c, .string t.nm] W fun e w' => e = .returned (.int .i64 E) ∧ Below W.heap.size W w') := fun W hW => by
    rw [← hE.out]; exact nameAmiss_any A k c (l.take k) t.nm W ((HR.out.upto (Nat.le_of_lt hk)).below hW)
  have SL := fun W => run_uptoTab (A := A) (n := n) (c := c) (m := k) (Nat.le_trans (Nat.le_of_lt hk) HC.out) W
  have k0 : Below W0.heap.size W0 W0.drew := (Below.refl _ _).drew
  have k1 : W0.drew.cell? ⟨gs, 0, none⟩ = some (.slice A n c) := sch_row (row_below hs hW.drew)
  have k2 : W0.drew.cell? ⟨gi, 0, none⟩ = some (.int .i64 k) := int_row (row_below hi hW.drew)
  have k3 : W0.drew.cell? ⟨gt, 0, none⟩ = some (.string t.nm) := (tab_row (row_below ht hW.drew)).1
  show Calls _ _ _ _ fun e W' => e = .returned (.int .i64 (nameErr (l.take k) t.nm)) ∧ _
  rw [hE.out]
  clear h hs hi ht hW hE
  go_enter Tryz.func82, Tryz.ntmps82
  go_upto_region 1 with fail
  go_region_held3 (fun W => Below W0.heap.size W0 W ∧ W.cell? ⟨gs, 0, none⟩ = some (.slice A n c) ∧ W.cell? ⟨gi, 0, none⟩ = some (.int .i64 k) ∧ W.cell? ⟨gt, 0, none⟩ = some (.string t.nm))
    (first
      | (go_split_ands
         refine ⟨?_, ?_, ?_, ?_⟩
         · exact below_then (by assumption) bb
         all_goals exact (bb.cell (World.block_lt_of_cell? _ _ (by assumption))).trans (by assumption))
      | (go_split_ands
         refine ⟨?_, ?_, ?_, ?_⟩
         · exact Below.drew (by assumption)
         all_goals (show World.cell? _ _ = _; assumption))
      | (go_split_ands
         refine ⟨?_, ?_, ?_, ?_⟩
         all_goals assumption))
    (first
      | (go_at_call 83; refine (C.out _ (by go_split_ands; assumption)).mono ?_; rintro e wx ⟨rfl, bb⟩))
  go_split_ands
  have HB := Lib.hid (show Below W0.heap.size W0 wx by assumption)
  go_wp2_with fail
  go_ret
  exact ⟨rfl, HB.out⟩
set_option maxHeartbeats 3200000 in
theorem ask3_any (t : T6) (gt : Nat) (w0 : World) (h : t.Reads w0) (ht : w0.heap[gt]? = some (tabBox t)) :
    AskC Tryz.prog 86 #[.pointer (some ⟨gt, 0, none⟩)] t.nc (fun i => colErr (t.cols.take i) (t.cols.getD i c40)) w0 := by
  intro W0 hW i hi
  have HR := Lib.hid (h.cols.below hW)
  have HC := Lib.hid (h.cols.cap)
  obtain ⟨b, o, x, hca, hb, hx, hld⟩ := HR.out.col hi
  have HX := Lib.hid hx
  obtain ⟨E, hE⟩ : ∃ E, Hid (colErr (t.cols.take i) (t.cols.getD i c40) = E) := ⟨_, rfl⟩
  have C : Hid (∀ W, Below W0.heap.size W0 W → Calls Tryz.prog 87 #[.slice (some ⟨b, o, none⟩) i t.cc, .agg #[.string x.nm, .int .i64 x.k, .int .i64 x.t, .bool x.z]] W fun e w' => e = .returned (.int .i64 E) ∧ Below W.heap.size W w') := fun W hW => by
    rw [← hE.out, getD_of HX.out, ← hca]; exact columnAmiss_any t.ca i t.cc (t.cols.take i) x W ((HR.out.upto (Nat.le_of_lt hi) (Nat.le_trans (Nat.le_of_lt hi) HC.out) (Nat.le_refl _)).below hW)
  have SL := fun W => run_uptoCol (A := some ⟨b, o, none⟩) (n := t.nc) (c := t.cc) (m := i) (Nat.le_trans (Nat.le_of_lt hi) HC.out) W
  have y1 : (i : Int) < (t.nc : Int) := by omega
  have y0 : (0 : Int) ≤ (i : Int) := by omega
  have k0 : Below W0.heap.size W0 W0.drew := (Below.refl _ _).drew
  have k1 : W0.drew.cell? ⟨gt, 1, none⟩ = some (.slice (some ⟨b, o, none⟩) t.nc t.cc) := by rw [← hca]; exact (tab_row (row_below ht hW)).2.1
  obtain ⟨k2, k3, k4, k5⟩ := hld W0.drew (Below.refl _ _).drew
  show Calls _ _ _ _ fun e W' => e = .returned (.int .i64 (colErr (t.cols.take i) (t.cols.getD i c40))) ∧ _
  rw [hE.out]
  clear h ht hW hE hca hb hx hld
  go_enter Tryz.func86, Tryz.ntmps86
  go_upto_region 1 with fail
  go_region_held3 (fun W => Below W0.heap.size W0 W ∧ W.cell? ⟨gt, 1, none⟩ = some (.slice (some ⟨b, o, none⟩) t.nc t.cc) ∧ W.cell? ⟨b, o + i * 4, none⟩ = some (.string x.nm) ∧ W.cell? ⟨b, o + i * 4 + 1, none⟩ = some (.int .i64 x.k) ∧ W.cell? ⟨b, o + i * 4 + 2, none⟩ = some (.int .i64 x.t) ∧ W.cell? ⟨b, o + i * 4 + 3, none⟩ = some (.bool x.z))
    (first
      | (go_split_ands
         refine ⟨?_, ?_, ?_, ?_, ?_, ?_⟩
         · exact below_then (by assumption) bb
         all_goals exact (bb.cell (World.block_lt_of_cell? _ _ (by assumption))).trans (by assumption))
      | (go_split_ands
         refine ⟨?_, ?_, ?_, ?_, ?_, ?_⟩
         · exact Below.drew (by assumption)
         all_goals (show World.cell? _ _ = _; assumption))
      | (go_split_ands
         refine ⟨?_, ?_, ?_, ?_, ?_, ?_⟩
         all_goals assumption))
    (first
      | (go_at_call 87; refine (C.out _ (by go_split_ands; assumption)).mono ?_; rintro e wx ⟨rfl, bb⟩))
  go_split_ands
  have HB := Lib.hid (show Below W0.heap.size W0 wx by assumption)
  go_wp2_with fail
  go_ret
  exact ⟨rfl, HB.out⟩
set_option maxHeartbeats 3200000 in
theorem ask2_any (t : T6) (gt : Nat) (w0 : World) (ht : w0.heap[gt]? = some (tabBox t)) :
    AskC Tryz.prog 84 #[.pointer (some ⟨gt, 0, none⟩)] 1 (fun _ => sizeErr t) w0 := by
  intro W0 hW i hi
  obtain ⟨E, hE⟩ : ∃ E, Hid (sizeErr t = E) := ⟨_, rfl⟩
  have C : Hid (Calls Tryz.prog 85 #[.agg #[.string t.nm, .slice t.ca t.nc t.cc, .slice t.ua t.nu t.uc, .slice t.ha t.nh t.hc, .slice t.fa t.nf t.fc, .slice t.sa t.ns t.sc]] W0 fun e w' => e = .returned (.int .i64 E) ∧ Below W0.heap.size W0 w') := by
    rw [← hE.out]; exact sizeAmiss_any t W0
  obtain ⟨c0, c1, c2, c3, c4, c5⟩ := tab_row (row_below ht hW)
  show Calls _ _ _ _ fun e W' => e = .returned (.int .i64 (sizeErr t)) ∧ _
  rw [hE.out]
  clear ht hW hE
  go_enter Tryz.func84, Tryz.ntmps84
  go_wp2_with fail
  refine C.out.mono ?_
  rintro e w2 ⟨rfl, b2⟩
  have HB := Lib.hid b2
  clear b2 C
  go_wp2_with fail
  go_ret
  exact ⟨rfl, HB.out⟩
set_option maxHeartbeats 3200000 in
theorem ask5_any (t : T6) (gt : Nat) (w0 : World) (h : t.Reads w0) (ht : w0.heap[gt]? = some (tabBox t)) :
    AskC Tryz.prog 90 #[.pointer (some ⟨gt, 0, none⟩)] t.nu (fun i => uniErr t.cols t.uni i) w0 := by
  intro W0 hW i hi
  obtain ⟨E, hE⟩ : ∃ E, Hid (uniErr t.cols t.uni i = E) := ⟨_, rfl⟩
  have C : Hid (Calls Tryz.prog 91 #[.agg #[.string t.nm, .slice t.ca t.nc t.cc, .slice t.ua t.nu t.uc, .slice t.ha t.nh t.hc, .slice t.fa t.nf t.fc, .slice t.sa t.ns t.sc], .int .i64 i] W0 fun e w' => e = .returned (.int .i64 E) ∧ Below W0.heap.size W0 w') := by
    rw [← hE.out]; exact uniqueAmiss_any t i W0 (h.below hW) hi
  obtain ⟨c0, c1, c2, c3, c4, c5⟩ := tab_row (row_below ht hW)
  show Calls _ _ _ _ fun e W' => e = .returned (.int .i64 (uniErr t.cols t.uni i)) ∧ _
  rw [hE.out]
  clear ht hW hE h
  go_enter Tryz.func90, Tryz.ntmps90
  go_wp2_with fail
  refine C.out.mono ?_
  rintro e w2 ⟨rfl, b2⟩
  have HB := Lib.hid b2
  clear b2 C
  go_wp2_with fail
  go_ret
  exact ⟨rfl, HB.out⟩
set_option maxHeartbeats 3200000 in
theorem ask6_any (A : Option Addr) (n c gs : Nat) (t : T6) (gt : Nat) (w0 : World) (hs : w0.heap[gs]? = some (schBox A n c)) (h : t.Reads w0) (ht : w0.heap[gt]? = some (tabBox t)) :
    AskC Tryz.prog 92 #[.pointer (some ⟨gs, 0, none⟩), .pointer (some ⟨gt, 0, none⟩)] t.nf (fun i => fkErr n t.cols t.fks i) w0 := by
  intro W0 hW i hi
  obtain ⟨E, hE⟩ : ∃ E, Hid (fkErr n t.cols t.fks i = E) := ⟨_, rfl⟩
  have C : Hid (Calls Tryz.prog 93 #[.agg #[.slice A n c], .agg #[.string t.nm, .slice t.ca t.nc t.cc, .slice t.ua t.nu t.uc, .slice t.ha t.nh t.hc, .slice t.fa t.nf t.fc, .slice t.sa t.ns t.sc], .int .i64 i] W0 fun e w' => e = .returned (.int .i64 E) ∧ Below W0.heap.size W0 w') := by
    rw [← hE.out]; exact foreignAmiss_any A n c t i W0 (h.below hW) hi
  obtain ⟨c0, c1, c2, c3, c4, c5⟩ := tab_row (row_below ht hW)
  have s0 := sch_row (row_below hs hW)
  show Calls _ _ _ _ fun e W' => e = .returned (.int .i64 (fkErr n t.cols t.fks i)) ∧ _
  rw [hE.out]
  clear ht hW hE hs h
  go_enter Tryz.func92, Tryz.ntmps92
  go_wp2_with fail
  refine C.out.mono ?_
  rintro e w2 ⟨rfl, b2⟩
  have HB := Lib.hid b2
  clear b2 C
  go_wp2_with fail
  go_ret
  exact ⟨rfl, HB.out⟩
set_option maxHeartbeats 3200000 in
theorem ask7_any (t : T6) (gt : Nat) (w0 : World) (h : t.Reads w0) (ht : w0.heap[gt]? = some (tabBox t)) :
    AskC Tryz.prog 94 #[.pointer (some ⟨gt, 0, none⟩)] t.ns (fun i => sumErr t.cols t.sums i) w0 := by
  intro W0 hW i hi
  obtain ⟨E, hE⟩ : ∃ E, Hid (sumErr t.cols t.sums i = E) := ⟨_, rfl⟩
  have C : Hid (Calls Tryz.prog 95 #[.agg #[.string t.nm, .slice t.ca t.nc t.cc, .slice t.ua t.nu t.uc, .slice t.ha t.nh t.hc, .slice t.fa t.nf t.fc, .slice t.sa t.ns t.sc], .int .i64 i] W0 fun e w' => e = .returned (.int .i64 E) ∧ Below W0.heap.size W0 w') := by
    rw [← hE.out]; exact sumAmiss_any t i W0 (h.below hW) hi
  obtain ⟨c0, c1, c2, c3, c4, c5⟩ := tab_row (row_below ht hW)
  show Calls _ _ _ _ fun e W' => e = .returned (.int .i64 (sumErr t.cols t.sums i)) ∧ _
  rw [hE.out]
  clear ht hW hE h
  go_enter Tryz.func94, Tryz.ntmps94
  go_wp2_with fail
  refine C.out.mono ?_
  rintro e w2 ⟨rfl, b2⟩
  have HB := Lib.hid b2
  clear b2 C
  go_wp2_with fail
  go_ret
  exact ⟨rfl, HB.out⟩
set_option maxHeartbeats 3200000 in
theorem ask4_any (t : T6) (gt : Nat) (w0 : World) (h : t.Reads w0) (h0 : 0 < t.nc) (ht : w0.heap[gt]? = some (tabBox t)) :
    AskC Tryz.prog 88 #[.pointer (some ⟨gt, 0, none⟩)] 1 (fun _ => keyErr (t.cols.getD 0 c40)) w0 := by
  intro W0 hW i hi
  obtain ⟨b, o, x, hca, hb, hx, hld⟩ := (h.cols.below hW).col h0
  obtain ⟨E, hE⟩ : ∃ E, Hid (keyErr (t.cols.getD 0 c40) = E) := ⟨_, rfl⟩
  have C : Hid (Calls Tryz.prog 89 #[.agg #[.string x.nm, .int .i64 x.k, .int .i64 x.t, .bool x.z]] W0 fun e w' => e = .returned (.int .i64 E) ∧ Below W0.heap.size W0 w') := by
    rw [← hE.out, getD_of hx]; exact keyAmiss_any x W0
  obtain ⟨c0, c1, c2, c3, c4, c5⟩ := tab_row (row_below ht hW)
  rw [hca] at c1
  obtain ⟨d0, d1, d2, d3⟩ := hld W0 (Below.refl _ _)
  rw [Nat.zero_mul, Nat.add_zero] at d0 d1 d2 d3
  have y1 : (0 : Int) < (t.nc : Int) := by omega
  show Calls _ _ _ _ fun e W' => e = .returned (.int .i64 (keyErr (t.cols.getD 0 c40))) ∧ _
  rw [hE.out]
  clear ht hW hE h hca hb hx hld
  go_enter Tryz.func88, Tryz.ntmps88
  go_wp2_with fail
  refine C.out.mono ?_
  rintro e w2 ⟨rfl, b2⟩
  have HB := Lib.hid b2
  clear b2 C
  go_wp2_with fail
  go_ret
  exact ⟨rfl, HB.out⟩
end Go.Proofs.YtfljhnalmiibeaaGreat

