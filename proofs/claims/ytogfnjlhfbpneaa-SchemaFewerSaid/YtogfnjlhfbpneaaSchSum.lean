/- Layer 11: what is amiss in a bound: the code. Written by schsum.py. -/
import Derived.Test.YtogfnjlhfbpneaaSchUniq
namespace Go.Proofs.Ytogfnjlhfbpneaa
set_option maxRecDepth 100000
open Go.RowKit

theorem run_uptoSum {A : Option Addr} {n c m : Nat} (h : m ≤ c) (W : World) : (Instr.slice 37 (.slice A n c) none (some (.int .i64 m)) none).run Try.prog W = .ok (.slice A m c) W := by
  have hz : (sizeOf (Try.prog.elem 37)).run Try.prog W = .ok 3 W := by kernel_rfl
  have ht : Try.prog.underlying 37 = some (.slice (Try.prog.elem 37)) := by kernel_rfl
  rw [run_slice_h (P := Try.prog) (w := W) (t := 37) (a := A) (len := n) (cap := c) (ht := ht) (kh := .i64) (h := m) (h0 := by omega) (h2 := by omega), hz]
  have ha : A.map (·.add (0 * 3)) = A := by cases A <;> simp [Addr.add]
  simp only [Result.andThen, sliced, ha, Int.toNat_natCast, Nat.sub_zero, ite_self]

set_option maxHeartbeats 12800000 in
theorem sumAmiss_any (t : T6) (i : Nat) (w : World) (h : t.Reads w) (hi : i < t.ns) :
    Calls Try.prog 47 #[t.agg, .int .i64 i] w fun e w' => e = .returned (.int .i64 (sumErr t.cols t.sums i)) ∧ Below w.heap.size w w' := by
  obtain ⟨w1, hw1⟩ : ∃ w1, w1 = w.alloc (tabBox t) := ⟨_, rfl⟩
  have HB1 : Hid (Below w.heap.size w w1) := by rw [hw1]; exact below_new (Below.refl _ _) _
  have R1 : Hid (w1.heap[w.heap.size]? = some (tabBox t)) := by rw [hw1]; exact heap_alloc_new _ _
  have hs1 : w1.heap.size = w.heap.size + 1 := by rw [hw1]; simp
  have HS := Lib.hid (h.sums.below HB1.out); have HC := Lib.hid (h.cols.below HB1.out); have HCL := Lib.hid h.cols.len; have HSL := Lib.hid h.sums.len
  obtain ⟨b, o, x, hfa, hb, hx, hld⟩ := HS.out.f3 hi
  have HFA := Lib.hid hfa
  have hfle := h.sums.le
  have hcap := h.sums.cap
  obtain ⟨w2, hw2⟩ : ∃ w2, w2 = w1.alloc (sumBox x) := ⟨_, rfl⟩
  have HW2 : Hid (w2 = (w.alloc (tabBox t)).alloc (sumBox x)) := by show _ = _; rw [hw2, hw1]
  have B12 : Hid (Below w1.heap.size w1 w2) := by rw [hw2]; exact below_new (Below.refl _ _) _
  have HB2 : Hid (Below w.heap.size w w2) := Lib.hid (below_then HB1.out B12.out)
  have R2 := Lib.hid (row_below R1.out B12.out)
  have X2 : Hid (w2.heap[w.heap.size + 1]? = some (sumBox x)) := by show _ = _; rw [hw2, ← hs1]; exact heap_alloc_new _ _
  obtain ⟨u0, u1, u2⟩ := hld (w.alloc (tabBox t)) (by rw [← hw1]; exact Below.refl _ _)
  have v5 := (tab_row R1.out).2.2.2.2.2
  rw [hw1, hfa] at v5
  obtain ⟨b1, hb1⟩ : ∃ b1, Hid (bindB t.nc x.a = b1) := ⟨_, rfl⟩
  obtain ⟨b2, hb2⟩ : ∃ b2, Hid (bindB t.nc x.b = b2) := ⟨_, rfl⟩
  obtain ⟨r1, hr1⟩ : ∃ r1, Hid (regB (colOf t.cols x.a) = r1) := ⟨_, rfl⟩
  obtain ⟨r2, hr2⟩ : ∃ r2, Hid (regB (colOf t.cols x.b) = r2) := ⟨_, rfl⟩
  obtain ⟨ag, hag⟩ : ∃ ag, Hid (((t.sums.take i).any fun y => decide (y.a = x.a) && decide (y.b = x.b)) = ag) := ⟨_, rfl⟩
  obtain ⟨E, hEE⟩ : ∃ E, Hid (sumErr t.cols t.sums i = E) := ⟨_, rfl⟩
  have hE : Hid (E = if b1 = false ∨ b2 = false then 4 else if x.a = x.b ∨ x.c < 0 ∨ 1099511627776 < x.c then 1 else if r1 = false ∨ r2 = false then 6 else if ag = true then 5 else 0) := by
    show _ = _
    rw [← hEE.out, sumErr, getD_of hx, HCL.out, hb1.out, hb2.out, hr1.out, hr2.out, hag.out]
  rw [hEE.out]
  have CB1 : Hid (∀ W, Calls Try.prog 52 #[.agg #[.string t.nm, .slice t.ca t.nc t.cc, .slice t.ua t.nu t.uc, .slice t.ha t.nh t.hc, .slice t.fa t.nf t.fc, .slice (some ⟨b, o, none⟩) t.ns t.sc], .int .i64 x.a] W fun e w' => e = .returned (.bool b1) ∧ Below W.heap.size W w') := fun W => by rw [← hb1.out, ← hfa]; exact bindable_any t x.a W
  have CB2 : Hid (∀ W, Calls Try.prog 52 #[.agg #[.string t.nm, .slice t.ca t.nc t.cc, .slice t.ua t.nu t.uc, .slice t.ha t.nh t.hc, .slice t.fa t.nf t.fc, .slice (some ⟨b, o, none⟩) t.ns t.sc], .int .i64 x.b] W fun e w' => e = .returned (.bool b2) ∧ Below W.heap.size W w') := fun W => by rw [← hb2.out, ← hfa]; exact bindable_any t x.b W
  have CR1 : Hid (∀ W, Calls Try.prog 51 #[(colOf t.cols x.a).agg] W fun e w' => e = .returned (.bool r1) ∧ Below W.heap.size W w') := fun W => by rw [← hr1.out]; exact register_any _ W
  have CR2 : Hid (∀ W, Calls Try.prog 51 #[(colOf t.cols x.b).agg] W fun e w' => e = .returned (.bool r2) ∧ Below W.heap.size W w') := fun W => by rw [← hr2.out]; exact register_any _ W
  have CC : Hid (∀ W, Below w2.heap.size w2 W → Calls Try.prog 55 #[.slice (some ⟨b, o, none⟩) i t.sc, .func (.func 54) #[] #[.pointer (some ⟨w.heap.size + 1, 0, none⟩)]] W fun e w' => e = .returned (.bool ag) ∧ Below W.heap.size W w') := fun W hW => by
    rw [← hag.out, ← hfa]
    have hr := (HS.out.upto (Nat.le_of_lt hi) (Nat.le_trans (Nat.le_of_lt hi) hcap) (Nat.le_refl t.sc)).below (B12.out.trans (hW.mono B12.out.size))
    exact contains_any 54 _ _ t.sa i t.sc (t.sums.take i) W Try.egCloF hr (cloF_any x (w.heap.size + 1) W (row_below X2.out hW))
  have SL := fun W => run_uptoSum (A := some ⟨b, o, none⟩) (n := t.ns) (c := t.sc) (m := i) (Nat.le_trans (Nat.le_of_lt hi) hcap) W
  have y1 : (i : Int) < (t.ns : Int) := by omega
  have y0 : (0 : Int) ≤ (i : Int) := by omega
  clear h hw1 hw2 hEE hr1 hr2 hag hfa hb hx hld hs1 hcap
  go_enter Try.func47, Try.ntmps47
  go_upto_region 2 with fail
  rw [show (w.alloc (tabBox t)).alloc (sumBox x) = w2 from HW2.out.symm]
  clear HW2 u0 u1 u2 v5
  obtain ⟨c0, c1, c2, c3, c4, c5⟩ := tab_row R2.out
  obtain ⟨f0, f1, f2⟩ := f3_row X2.out
  rw [HFA.out] at c5
  go_wp2_with fail
  refine (CB1.out _).mono ?_
  rintro e w3 ⟨rfl, b3⟩
  have HB3 := Lib.hid (below_then HB2.out b3)
  have B23 := Lib.hid b3
  have B13 := Lib.hid (below_then B12.out b3)
  have R3 := Lib.hid (row_below R2.out b3); have X3 := Lib.hid (row_below X2.out b3)
  clear b3 CB1 R2 HB2 c0 c1 c2 c3 c4 c5 f0 f1 f2
  obtain ⟨c0, c1, c2, c3, c4, c5⟩ := tab_row R3.out
  obtain ⟨f0, f1, f2⟩ := f3_row X3.out
  rw [HFA.out] at c5
  cases b1 with
  | false =>
    go_wp2_with fail
    go_ret
    exact ⟨ret_int (by rw [hE.out]; simp), HB3.out⟩
  | true =>
    go_wp2_with fail
    refine (CB2.out _).mono ?_
    rintro e w4 ⟨rfl, b4⟩
    have HB4 := Lib.hid (below_then HB3.out b4)
    have B24 := Lib.hid (below_then B23.out b4)
    have B14 := Lib.hid (below_then B13.out b4)
    have R4 := Lib.hid (row_below R3.out b4); have X4 := Lib.hid (row_below X3.out b4)
    clear b4 c0 c1 c2 c3 c4 c5 f0 f1 f2
    obtain ⟨c0, c1, c2, c3, c4, c5⟩ := tab_row R4.out
    obtain ⟨f0, f1, f2⟩ := f3_row X4.out
    rw [HFA.out] at c5
    cases b2 with
    | false =>
      go_wp2_with fail
      go_ret
      exact ⟨ret_int (by rw [hE.out]; simp), HB4.out⟩
    | true =>
      obtain ⟨bc, oc, hca, hbc, ⟨z0, z1⟩, hcl⟩ := HC.out.colAt hb1.out
      obtain ⟨bc', oc', hca', hbc', ⟨z2, z3⟩, hcl'⟩ := HC.out.colAt hb2.out
      have HCA := Lib.hid hca
      have HL1 := Lib.hid hcl; have HL2 := Lib.hid hcl'
      rw [hca] at hca'
      cases hca'
      clear hca hcl hcl' hbc hbc' hb1 hb2
      by_cases e1 : x.a = x.b
      · have q1 := beq_yes e1
        have hE3 : Hid (E = 1) := by show _ = _; rw [hE.out]; simp [e1]
        clear e1
        go_wp2_with fail
        go_ret
        exact ⟨ret_int hE3.out.symm, HB4.out⟩
      have q1 := beq_no e1
      by_cases e2 : x.c < 0
      · have hE3 : Hid (E = 1) := by show _ = _; rw [hE.out]; simp [e2]
        go_wp2_with fail
        go_ret
        exact ⟨ret_int hE3.out.symm, HB4.out⟩
      by_cases e3 : 1099511627776 < x.c
      · have hE3 : Hid (E = 1) := by show _ = _; rw [hE.out]; simp [e3]
        go_wp2_with fail
        go_ret
        exact ⟨ret_int hE3.out.symm, HB4.out⟩
      have hE2 : Hid (E = if r1 = false ∨ r2 = false then 6 else if ag = true then 5 else 0) := by show _ = _; rw [hE.out]; simp [e1, e2, e3]
      clear hE e1
      obtain ⟨d0, d1, d2, d3⟩ := HL1.out w4 B14.out
      rw [HCA.out] at c1
      go_wp2_with fail
      refine (CR1.out _).mono ?_
      rintro e w5 ⟨rfl, b5⟩
      have HB5 := Lib.hid (below_then HB4.out b5)
      have B25 := Lib.hid (below_then B24.out b5)
      have B15 := Lib.hid (below_then B14.out b5)
      have R5 := Lib.hid (row_below R4.out b5); have X5 := Lib.hid (row_below X4.out b5)
      clear b5 c0 c1 c2 c3 c4 c5 f0 f1 f2
      obtain ⟨c0, c1, c2, c3, c4, c5⟩ := tab_row R5.out
      obtain ⟨f0, f1, f2⟩ := f3_row X5.out
      rw [HFA.out] at c5
      clear d0 d1 d2 d3
      obtain ⟨d0, d1, d2, d3⟩ := HL2.out w5 B15.out
      rw [HCA.out] at c1
      cases r1 with
      | false =>
        go_wp2_with fail
        go_ret
        exact ⟨ret_int (by rw [hE2.out]; simp), HB5.out⟩
      | true =>
        go_wp2_with fail
        refine (CR2.out _).mono ?_
        rintro e w6 ⟨rfl, b6⟩
        have HB6 := Lib.hid (below_then HB5.out b6)
        have B26 := Lib.hid (below_then B25.out b6)
        have B16 := Lib.hid (below_then B15.out b6)
        have R6 := Lib.hid (row_below R5.out b6); have X6 := Lib.hid (row_below X5.out b6)
        clear b6 c0 c1 c2 c3 c4 c5 f0 f1 f2
        obtain ⟨c0, c1, c2, c3, c4, c5⟩ := tab_row R6.out
        obtain ⟨f0, f1, f2⟩ := f3_row X6.out
        rw [HFA.out] at c5
        clear d0 d1 d2 d3
        cases r2 with
        | false =>
          go_wp2_with fail
          go_ret
          exact ⟨ret_int (by rw [hE2.out]; simp), HB6.out⟩
        | true =>
          have CC2 := Lib.hid (CC.out w6 B26.out)
          go_wp2_with fail
          refine (CC2.out).mono ?_
          rintro e w7 ⟨rfl, b7⟩
          have HB7 := Lib.hid (below_then HB6.out b7)
          have B27 := Lib.hid (below_then B26.out b7)
          have B17 := Lib.hid (below_then B16.out b7)
          have R7 := Lib.hid (row_below R6.out b7); have X7 := Lib.hid (row_below X6.out b7)
          clear b7 c0 c1 c2 c3 c4 c5 f0 f1 f2
          obtain ⟨c0, c1, c2, c3, c4, c5⟩ := tab_row R7.out
          obtain ⟨f0, f1, f2⟩ := f3_row X7.out
          rw [HFA.out] at c5
          cases ag with
          | false =>
            go_wp2_with fail
            go_ret
            exact ⟨ret_int (by rw [hE2.out]; simp), HB7.out⟩
          | true =>
            go_wp2_with fail
            go_ret
            exact ⟨ret_int (by rw [hE2.out]; simp), HB7.out⟩
end Go.Proofs.Ytogfnjlhfbpneaa
