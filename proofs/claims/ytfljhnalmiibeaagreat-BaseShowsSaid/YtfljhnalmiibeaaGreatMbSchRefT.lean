/- Several texts laid together: SchRefT, SchLaw, MulOpen, BasWant. -/
import Derived.Test.YtfljhnalmiibeaaGreatMbSchQs
import Derived.Test.YtfljhnalmiibeaaGreatMbSchColR
import Derived.Test.YtfljhnalmiibeaaGreatMbSchSumR
import Derived.Test.YtfljhnalmiibeaaGreatMbSchRefN
import Derived.ChangeKeysEq
import Derived.Deep.QuietTactic
import Derived.Test.YtfljhnalmiibeaaGreatMbCellOpen
import Derived.Test.YtfljhnalmiibeaaGreatMbMulRight2
import Derived.Test.YtfljhnalmiibeaaGreatMbBagRight
import Derived.Test.YtfljhnalmiibeaaGreatMbBagSorted
import Derived.Test.YtfljhnalmiibeaaGreatMbTxtEq
import Derived.Test.YtfljhnalmiibeaaGreatMbBasMath
import Derived.Test.YtfljhnalmiibeaaGreatMbBasPut2
import Derived.Test.YtfljhnalmiibeaaGreatMbMulCmp
namespace Go.Proofs.YtfljhnalmiibeaaGreat
set_option maxRecDepth 100000
open Go.RowKit
def partsErr (nt : Nat) (t : T6) : Int := firstE 5 (fun q => ask1 nt [] t (q + 2))
theorem ask1_name (nt : Nat) (a : List T6) (t : T6) : ask1 nt a t 0 = nameErr a t.nm := by
  simp only [ask1, askE, firstE]; split <;> simp_all
theorem ask1_size (nt : Nat) (a : List T6) (t : T6) : ask1 nt a t 1 = sizeErr t := by
  simp only [ask1, askE, firstE]; split <;> simp_all
theorem ask1_key (nt : Nat) (a : List T6) (t : T6) : ask1 nt a t 3 = keyErr (t.cols.getD 0 c40) := by
  simp only [ask1, askE, firstE]; split <;> simp_all
theorem ask1_past (nt : Nat) (a b : List T6) (t : T6) (q : Nat) : ask1 nt a t (q + 2) = ask1 nt b t (q + 2) := by
  match q with
  | 0 => rfl
  | 1 => rfl
  | 2 => rfl
  | 3 => rfl
  | 4 => rfl
  | _ + 5 => rfl
theorem tabErr_eq (nt : Nat) (a : List T6) (t : T6) : tabErr nt a t = if nameErr a t.nm = 0 then (if sizeErr t = 0 then partsErr nt t else sizeErr t) else nameErr a t.nm := by
  rw [tabErr, partsErr]
  rw [show (7 : Nat) = 5 + 1 + 1 from rfl, firstE, ask1_name, firstE]
  show (if _ = _ then (if ask1 nt a t 1 = 0 then _ else ask1 nt a t 1) else _) = _
  rw [ask1_size]
  rw [firstE_ext 5 (fun i => ask1 nt a t (i + 1 + 1)) (fun q => ask1 nt [] t (q + 2)) (fun i _ => ask1_past nt a [] t i)]
theorem ask1_at {nt : Nat} {a : List T6} {t : T6} {q k : Nat} {r : Int} (hk : k < (askE nt a t q).1) (h0 : ∀ i, i < k → (askE nt a t q).2 i = 0) (hr : (askE nt a t q).2 k = r) (hne : r ≠ 0) : ask1 nt a t q = r := by
  rw [ask1, firstE_at _ k _ hk h0 (by rw [hr]; exact hne), hr]
theorem ask1_none {nt : Nat} {a : List T6} {t : T6} {q : Nat} (h0 : ∀ i, i < (askE nt a t q).1 → (askE nt a t q).2 i = 0) : ask1 nt a t q = 0 := (firstE_zero _ _).2 h0
set_option maxHeartbeats 12800000 in
theorem refParts_any (A : Option Addr) (n c : Nat) (t : T6) (w : World) (h : t.Reads w) (h0 : 0 < t.nc) :
    Calls Tryz.prog 99 #[.agg #[.slice A n c], t.agg] w fun e w' => e = .returned (.int .i64 (partsErr n t)) ∧ Below w.heap.size w w' := by
  obtain ⟨w1, hw1⟩ : ∃ w1, w1 = (w.alloc (schBox A n c)).alloc (tabBox t) := ⟨_, rfl⟩
  have HW1 := Lib.hid hw1
  have HB1 : Hid (Below w.heap.size w w1) := by rw [hw1]; exact below_new (below_new (Below.refl _ _) _) _
  have S1 : Hid (w1.heap[w.heap.size]? = some (schBox A n c)) := by rw [hw1, Below.heap_alloc _ _ _ (by simp)]; exact heap_alloc_new _ _
  have R1 : Hid (w1.heap[w.heap.size + 1]? = some (tabBox t)) := by
    show _ = _
    rw [hw1]
    have := heap_alloc_new (w.alloc (schBox A n c)) (tabBox t)
    rwa [World.size_alloc] at this
  have HR := Lib.hid (h.below HB1.out)
  have l1 := h.cols.le; have l2 := h.uni.le; have l3 := h.fks.le; have l4 := h.sums.le
  obtain ⟨E, hEE⟩ : ∃ E, Hid (partsErr n t = E) := ⟨_, rfl⟩
  rw [hEE.out]
  have hfin : Hid (∀ q r, q < 5 → (∀ p, p < q → ask1 n [] t (p + 2) = 0) → ask1 n [] t (q + 2) = r → r ≠ 0 → E = r) := by
    show ∀ q r, _
    intro q r hq hp hr hne
    rw [← hEE.out, partsErr, firstE_at 5 q _ hq hp (by show ask1 n [] t (q + 2) ≠ 0; rw [hr]; exact hne), hr]
  obtain ⟨bk, ok, x, hka, hkb, hkx, hkl⟩ := HR.out.cols.col h0
  have HKA := Lib.hid hka; have HKX := Lib.hid hkx; have HKL := Lib.hid hkl
  clear hw1 h hka hkb hkx hkl
  go_enter Tryz.func99, Tryz.ntmps99
  go_upto_region 1 with fail
  rw [show (w.alloc (schBox A n c)).alloc (tabBox t) = w1 from HW1.out.symm]
  clear HW1
  go_wp2_with fail
  have hP : Hid (∀ p, p < 0 → ask1 n [] t (p + 2) = 0) := by show ∀ p, _; intro p h; exact absurd h (by omega)
  go_loopw [5] (fun v wr => ∃ k : Nat, k ≤ t.nc ∧ v = .int .i64 k ∧ Hid (∀ j, j < k → (askE n [] t 2).2 j = 0) ∧ Hid (Below w1.heap.size w1 wr)) (fun v _ => t.nc - (intOf v).toNat)
  case atStart => exact ⟨0, Nat.zero_le _, rfl, by show ∀ j, _; intro j h; exact absurd h (by omega), Below.refl _ _⟩
  case round =>
    obtain ⟨k, hk, rfl, hA, KB⟩ := hrel
    have HB := Lib.hid (below_then HB1.out KB.out)
    obtain ⟨c0, c1, c2, c3, c4, c5⟩ := tab_row (row_below R1.out KB.out)
    have s0 := sch_row (row_below S1.out KB.out)
    by_cases hlt : k < t.nc
    · obtain ⟨r, hr⟩ : ∃ r, Hid ((askE n [] t 2).2 k = r) := ⟨_, rfl⟩
      have C : Hid (Calls Tryz.prog 131 #[.agg #[.string t.nm, .slice t.ca t.nc t.cc, .slice t.ua t.nu t.uc, .slice t.ha t.nh t.hc, .slice t.fa t.nf t.fc, .slice t.sa t.ns t.sc], .int .i64 k] wr fun e w' => e = .returned (.int .i64 r) ∧ Below wr.heap.size wr w') := by
        rw [← hr.out]; exact refColE_any t k wr (HR.out.below KB.out) hlt
      have y1 : (k : Int) < (t.nc : Int) := by omega
      go_wp2_with fail
      refine C.out.mono ?_
      rintro e w4 ⟨rfl, b4⟩
      have KB4 := Lib.hid (below_then KB.out b4)
      have HB4 := Lib.hid (below_then HB1.out KB4.out)
      clear C b4 c0 c1 c2 c3 c4 c5 s0
      by_cases hr0 : r = 0
      · subst hr0
        have hA2 : Hid (∀ j, j < k + 1 → (askE n [] t 2).2 j = 0) := by show ∀ j, _; exact zero_next hA.out hr.out
        clear hr
        go_wp2_with fail
        exact ⟨⟨k + 1, by omega, by go_num, hA2, KB4⟩, by simp [intOf]; omega⟩
      · have hf : Hid (E = r) := by show _ = _; exact hfin.out 0 r (by omega) hP.out (ask1_at hlt hA.out hr.out hr0) hr0
        have q0 := beq_no hr0
        have q1 : (r != 0) = true := by simp [bne, q0]
        clear hr0
        go_wp2_with fail
        go_ret
        exact ⟨ret_int hf.out.symm, HB4.out⟩
    · obtain rfl : k = t.nc := by omega
      have y1 : ¬ (t.nc : Int) < (t.nc : Int) := by omega
      have hP2 : Hid (∀ p, p < 1 → ask1 n [] t (p + 2) = 0) := by show ∀ p, _; exact zero_next (f := fun p => ask1 n [] t (p + 2)) hP.out (ask1_none hA.out)
      clear hA
      rw [HKA.out] at c1
      obtain ⟨d0, d1, d2, d3⟩ := HKL.out wr KB.out
      rw [Nat.zero_mul, Nat.add_zero] at d0 d1 d2 d3
      have z1 : (0 : Int) < (t.nc : Int) := by omega
      obtain ⟨z, hz⟩ : ∃ z, Hid (x.z = z) := ⟨_, rfl⟩
      obtain ⟨q0, hq0⟩ : ∃ q0, (x.k == 0) = q0 := ⟨_, rfl⟩
      obtain ⟨q1, hq1⟩ : ∃ q1, (x.t == 1) = q1 := ⟨_, rfl⟩
      have hKE : Hid (keyErr (t.cols.getD 0 c40) = if (q0 && q1) = false ∨ z = true then 6 else 0) := by show _ = _; rw [getD_of HKX.out, keyErr, regB, hq0, hq1, hz.out]
      rw [hz.out] at d3
      cases q0 with
      | false =>
        have f0 : (x.k != 0) = true := by simp [bne, hq0]
        have hf : Hid (E = 6) := by show _ = _; exact hfin.out 1 6 (by omega) hP2.out (by rw [ask1_key, hKE.out]; simp []) (by decide)
        go_wp2_with fail
        go_ret
        exact ⟨ret_int hf.out.symm, HB.out⟩
      | true =>
      have f0 : (x.k != 0) = false := by simp [bne, hq0]
      cases q1 with
      | false =>
        have f1 : (x.t != 1) = true := by simp [bne, hq1]
        have hf : Hid (E = 6) := by show _ = _; exact hfin.out 1 6 (by omega) hP2.out (by rw [ask1_key, hKE.out]; simp []) (by decide)
        go_wp2_with fail
        go_ret
        exact ⟨ret_int hf.out.symm, HB.out⟩
      | true =>
      have f1 : (x.t != 1) = false := by simp [bne, hq1]
      cases z with
      | true =>
        have hf : Hid (E = 6) := by show _ = _; exact hfin.out 1 6 (by omega) hP2.out (by rw [ask1_key, hKE.out]; simp []) (by decide)
        go_wp2_with fail
        go_ret
        exact ⟨ret_int hf.out.symm, HB.out⟩
      | false =>
      have hP3 : Hid (∀ p, p < 2 → ask1 n [] t (p + 2) = 0) := by show ∀ p, _; exact zero_next (f := fun p => ask1 n [] t (p + 2)) hP2.out (by show ask1 n [] t 3 = 0; rw [ask1_key, hKE.out]; rfl)
      clear hP2
      have hP2 := hP3
      clear hP3 hKE
      go_wp2_with fail
      have hP := hP2
      clear d0 d1 d2 d3 f0 f1 hq0 hq1 hP2 c0 c1 c2 c3 c4 c5 s0 HB
      go_loopw [7] (fun v wr => ∃ k : Nat, k ≤ t.nu ∧ v = .int .i64 k ∧ Hid (∀ j, j < k → (askE n [] t 4).2 j = 0) ∧ Hid (Below w1.heap.size w1 wr)) (fun v _ => t.nu - (intOf v).toNat)
      case atStart => exact ⟨0, Nat.zero_le _, rfl, by show ∀ j, _; intro j h; exact absurd h (by omega), KB⟩
      case round =>
        obtain ⟨k, hk, rfl, hA, KB⟩ := hrel
        have HB := Lib.hid (below_then HB1.out KB.out)
        obtain ⟨c0, c1, c2, c3, c4, c5⟩ := tab_row (row_below R1.out KB.out)
        have s0 := sch_row (row_below S1.out KB.out)
        by_cases hlt : k < t.nu
        · obtain ⟨r, hr⟩ : ∃ r, Hid ((askE n [] t 4).2 k = r) := ⟨_, rfl⟩
          have C : Hid (Calls Tryz.prog 132 #[.agg #[.string t.nm, .slice t.ca t.nc t.cc, .slice t.ua t.nu t.uc, .slice t.ha t.nh t.hc, .slice t.fa t.nf t.fc, .slice t.sa t.ns t.sc], .int .i64 k] wr fun e w' => e = .returned (.int .i64 r) ∧ Below wr.heap.size wr w') := by
            rw [← hr.out]; exact refUniqE_any t k wr (HR.out.below KB.out) hlt
          have y1 : (k : Int) < (t.nu : Int) := by omega
          go_wp2_with fail
          refine C.out.mono ?_
          rintro e w4 ⟨rfl, b4⟩
          have KB4 := Lib.hid (below_then KB.out b4)
          have HB4 := Lib.hid (below_then HB1.out KB4.out)
          clear C b4 c0 c1 c2 c3 c4 c5 s0
          by_cases hr0 : r = 0
          · subst hr0
            have hA2 : Hid (∀ j, j < k + 1 → (askE n [] t 4).2 j = 0) := by show ∀ j, _; exact zero_next hA.out hr.out
            clear hr
            go_wp2_with fail
            exact ⟨⟨k + 1, by omega, by go_num, hA2, KB4⟩, by simp [intOf]; omega⟩
          · have hf : Hid (E = r) := by show _ = _; exact hfin.out 2 r (by omega) hP.out (ask1_at hlt hA.out hr.out hr0) hr0
            have q0 := beq_no hr0
            have q1 : (r != 0) = true := by simp [bne, q0]
            clear hr0
            go_wp2_with fail
            go_ret
            exact ⟨ret_int hf.out.symm, HB4.out⟩
        · obtain rfl : k = t.nu := by omega
          have y1 : ¬ (t.nu : Int) < (t.nu : Int) := by omega
          have hP2 : Hid (∀ p, p < 3 → ask1 n [] t (p + 2) = 0) := by show ∀ p, _; exact zero_next (f := fun p => ask1 n [] t (p + 2)) hP.out (ask1_none hA.out)
          clear hA
          go_wp2_with fail
          have hP := hP2
          clear hP2 c0 c1 c2 c3 c4 c5 s0 HB
          go_loopw [9] (fun v wr => ∃ k : Nat, k ≤ t.nf ∧ v = .int .i64 k ∧ Hid (∀ j, j < k → (askE n [] t 5).2 j = 0) ∧ Hid (Below w1.heap.size w1 wr)) (fun v _ => t.nf - (intOf v).toNat)
          case atStart => exact ⟨0, Nat.zero_le _, rfl, by show ∀ j, _; intro j h; exact absurd h (by omega), KB⟩
          case round =>
            obtain ⟨k, hk, rfl, hA, KB⟩ := hrel
            have HB := Lib.hid (below_then HB1.out KB.out)
            obtain ⟨c0, c1, c2, c3, c4, c5⟩ := tab_row (row_below R1.out KB.out)
            have s0 := sch_row (row_below S1.out KB.out)
            by_cases hlt : k < t.nf
            · obtain ⟨r, hr⟩ : ∃ r, Hid ((askE n [] t 5).2 k = r) := ⟨_, rfl⟩
              have C : Hid (Calls Tryz.prog 133 #[.agg #[.slice A n c], .agg #[.string t.nm, .slice t.ca t.nc t.cc, .slice t.ua t.nu t.uc, .slice t.ha t.nh t.hc, .slice t.fa t.nf t.fc, .slice t.sa t.ns t.sc], .int .i64 k] wr fun e w' => e = .returned (.int .i64 r) ∧ Below wr.heap.size wr w') := by
                rw [← hr.out]; exact refForeignE_any A n c t k wr (HR.out.below KB.out) hlt
              have y1 : (k : Int) < (t.nf : Int) := by omega
              go_wp2_with fail
              refine C.out.mono ?_
              rintro e w4 ⟨rfl, b4⟩
              have KB4 := Lib.hid (below_then KB.out b4)
              have HB4 := Lib.hid (below_then HB1.out KB4.out)
              clear C b4 c0 c1 c2 c3 c4 c5 s0
              by_cases hr0 : r = 0
              · subst hr0
                have hA2 : Hid (∀ j, j < k + 1 → (askE n [] t 5).2 j = 0) := by show ∀ j, _; exact zero_next hA.out hr.out
                clear hr
                go_wp2_with fail
                exact ⟨⟨k + 1, by omega, by go_num, hA2, KB4⟩, by simp [intOf]; omega⟩
              · have hf : Hid (E = r) := by show _ = _; exact hfin.out 3 r (by omega) hP.out (ask1_at hlt hA.out hr.out hr0) hr0
                have q0 := beq_no hr0
                have q1 : (r != 0) = true := by simp [bne, q0]
                clear hr0
                go_wp2_with fail
                go_ret
                exact ⟨ret_int hf.out.symm, HB4.out⟩
            · obtain rfl : k = t.nf := by omega
              have y1 : ¬ (t.nf : Int) < (t.nf : Int) := by omega
              have hP2 : Hid (∀ p, p < 4 → ask1 n [] t (p + 2) = 0) := by show ∀ p, _; exact zero_next (f := fun p => ask1 n [] t (p + 2)) hP.out (ask1_none hA.out)
              clear hA
              go_wp2_with fail
              have hP := hP2
              clear hP2 c0 c1 c2 c3 c4 c5 s0 HB
              go_loopw [11] (fun v wr => ∃ k : Nat, k ≤ t.ns ∧ v = .int .i64 k ∧ Hid (∀ j, j < k → (askE n [] t 6).2 j = 0) ∧ Hid (Below w1.heap.size w1 wr)) (fun v _ => t.ns - (intOf v).toNat)
              case atStart => exact ⟨0, Nat.zero_le _, rfl, by show ∀ j, _; intro j h; exact absurd h (by omega), KB⟩
              case round =>
                obtain ⟨k, hk, rfl, hA, KB⟩ := hrel
                have HB := Lib.hid (below_then HB1.out KB.out)
                obtain ⟨c0, c1, c2, c3, c4, c5⟩ := tab_row (row_below R1.out KB.out)
                have s0 := sch_row (row_below S1.out KB.out)
                by_cases hlt : k < t.ns
                · obtain ⟨r, hr⟩ : ∃ r, Hid ((askE n [] t 6).2 k = r) := ⟨_, rfl⟩
                  have C : Hid (Calls Tryz.prog 134 #[.agg #[.string t.nm, .slice t.ca t.nc t.cc, .slice t.ua t.nu t.uc, .slice t.ha t.nh t.hc, .slice t.fa t.nf t.fc, .slice t.sa t.ns t.sc], .int .i64 k] wr fun e w' => e = .returned (.int .i64 r) ∧ Below wr.heap.size wr w') := by
                    rw [← hr.out]; exact refSumE_any t k wr (HR.out.below KB.out) hlt
                  have y1 : (k : Int) < (t.ns : Int) := by omega
                  go_wp2_with fail
                  refine C.out.mono ?_
                  rintro e w4 ⟨rfl, b4⟩
                  have KB4 := Lib.hid (below_then KB.out b4)
                  have HB4 := Lib.hid (below_then HB1.out KB4.out)
                  clear C b4 c0 c1 c2 c3 c4 c5 s0
                  by_cases hr0 : r = 0
                  · subst hr0
                    have hA2 : Hid (∀ j, j < k + 1 → (askE n [] t 6).2 j = 0) := by show ∀ j, _; exact zero_next hA.out hr.out
                    clear hr
                    go_wp2_with fail
                    exact ⟨⟨k + 1, by omega, by go_num, hA2, KB4⟩, by simp [intOf]; omega⟩
                  · have hf : Hid (E = r) := by show _ = _; exact hfin.out 4 r (by omega) hP.out (ask1_at hlt hA.out hr.out hr0) hr0
                    have q0 := beq_no hr0
                    have q1 : (r != 0) = true := by simp [bne, q0]
                    clear hr0
                    go_wp2_with fail
                    go_ret
                    exact ⟨ret_int hf.out.symm, HB4.out⟩
                · obtain rfl : k = t.ns := by omega
                  have y1 : ¬ (t.ns : Int) < (t.ns : Int) := by omega
                  have hP2 : Hid (∀ p, p < 5 → ask1 n [] t (p + 2) = 0) := by show ∀ p, _; exact zero_next (f := fun p => ask1 n [] t (p + 2)) hP.out (ask1_none hA.out)
                  clear hA
                  have hf : Hid (E = 0) := by show _ = _; rw [← hEE.out, partsErr, firstE_zero]; exact hP2.out
                  go_wp2_with fail
                  go_ret
                  exact ⟨ret_int hf.out.symm, HB.out⟩
set_option maxHeartbeats 12800000 in
theorem refTabE_any (A : Option Addr) (n c k : Nat) (l : List T6) (w : World) (h : RdS11 w A n c l) (hk : k < n) :
    Calls Tryz.prog 60 #[.agg #[.slice A n c], .int .i64 k] w fun e w' => e = .returned (.int .i64 (tabErr n (l.take k) (l.getD k t60))) ∧ Below w.heap.size w w' := by
  obtain ⟨b, o, t, rfl, hb, hx, hxr, hld⟩ := h.tab hk
  rw [getD_of hx]
  have hle := h.le
  obtain ⟨w1, hw1⟩ : ∃ w1, w1 = w.alloc (schBox (some ⟨b, o, none⟩) n c) := ⟨_, rfl⟩
  have HB1 : Hid (Below w.heap.size w w1) := by rw [hw1]; exact below_new (Below.refl _ _) _
  have S1 : Hid (w1.heap[w.heap.size]? = some (schBox (some ⟨b, o, none⟩) n c)) := by rw [hw1]; exact heap_alloc_new _ _
  have hs1 : w1.heap.size = w.heap.size + 1 := by rw [hw1]; simp
  have HS := Lib.hid (h.below HB1.out)
  have HR := Lib.hid (hxr.below HB1.out)
  obtain ⟨w2, hw2⟩ : ∃ w2, w2 = w1.alloc (tabBox t) := ⟨_, rfl⟩
  have HW2 : Hid (w2 = (w.alloc (schBox (some ⟨b, o, none⟩) n c)).alloc (tabBox t)) := by show _ = _; rw [hw2, hw1]
  have B12 : Hid (Below w1.heap.size w1 w2) := by rw [hw2]; exact below_new (Below.refl _ _) _
  have HB2 : Hid (Below w.heap.size w w2) := Lib.hid (below_then HB1.out B12.out)
  have S2 := Lib.hid (row_below S1.out B12.out)
  have R2 : Hid (w2.heap[w.heap.size + 1]? = some (tabBox t)) := by show _ = _; rw [hw2, ← hs1]; exact heap_alloc_new _ _
  have u := hld (w.alloc (schBox (some ⟨b, o, none⟩) n c)) (by rw [← hw1]; exact HB1.out)
  obtain ⟨u0, u1, u2, u3, u4, u5⟩ := u
  have v1 := sch_row S1.out
  rw [hw1] at v1
  obtain ⟨nz, hnz⟩ : ∃ nz, Hid (nameZ t.nm = nz) := ⟨_, rfl⟩
  obtain ⟨th, hth⟩ : ∃ th, Hid (hasN T6.nm (l.take k) t.nm = th) := ⟨_, rfl⟩
  obtain ⟨E, hEE⟩ : ∃ E, Hid (tabErr n (l.take k) t = E) := ⟨_, rfl⟩
  obtain ⟨pe, hpe⟩ : ∃ pe, Hid (partsErr n t = pe) := ⟨_, rfl⟩
  have hE : Hid (E = if nz = false then 1 else if th = true then 5 else if sizeErr t = 0 then pe else sizeErr t) := by
    show _ = _
    rw [← hEE.out, tabErr_eq, nameErr, hnz.out, hth.out, hpe.out]
    cases nz <;> cases th <;> simp
  rw [hEE.out]
  have CN : Hid (∀ W, Calls Tryz.prog 98 #[.string t.nm] W fun e w' => e = .returned (.bool nz) ∧ Below W.heap.size W w') := fun W => by rw [← hnz.out]; exact refName_any t.nm W
  have CP : Hid (0 < t.nc → ∀ W, Below w1.heap.size w1 W → Calls Tryz.prog 99 #[.agg #[.slice (some ⟨b, o, none⟩) n c], .agg #[.string t.nm, .slice t.ca t.nc t.cc, .slice t.ua t.nu t.uc, .slice t.ha t.nh t.hc, .slice t.fa t.nf t.fc, .slice t.sa t.ns t.sc]] W fun e w' => e = .returned (.int .i64 pe) ∧ Below W.heap.size W w') := fun h0 W hW => by rw [← hpe.out]; exact refParts_any (some ⟨b, o, none⟩) n c t W (HR.out.below hW) h0
  have y1 : (k : Int) < (n : Int) := by omega
  have y0 : (0 : Int) ≤ (k : Int) := by omega
  clear h hw1 hw2 hEE hb hx hxr hld hs1 hnz hpe
  go_enter Tryz.func60, Tryz.ntmps60
  go_upto_region 2 with fail
  rw [show (w.alloc (schBox (some ⟨b, o, none⟩) n c)).alloc (tabBox t) = w2 from HW2.out.symm]
  clear HW2 u0 u1 u2 u3 u4 u5 v1
  obtain ⟨f0, f1, f2, f3, f4, f5⟩ := tab_row R2.out
  go_wp2_with fail
  refine (CN.out _).mono ?_
  rintro e w3 ⟨rfl, b3⟩
  have HB3 := Lib.hid (below_then HB2.out b3)
  have B13 := Lib.hid (below_then B12.out b3)
  have S3 := Lib.hid (row_below S2.out b3); have R3 := Lib.hid (row_below R2.out b3)
  clear b3 CN R2 HB2 S2 f0 f1 f2 f3 f4 f5
  cases nz with
  | false =>
    go_wp2_with fail
    go_ret
    exact ⟨ret_int (by rw [hE.out]; simp), HB3.out⟩
  | true =>
  have hE2 : Hid (E = if th = true then 5 else if sizeErr t = 0 then pe else sizeErr t) := by show _ = _; rw [hE.out]; simp
  go_wp2_with fail
  clear hE
  go_loopw [6] (fun v wr => ∃ j : Nat, j ≤ k ∧ v = .int .i64 j ∧ Hid (∀ i y, i < j → l[i]? = some y → decide (y.nm = t.nm) = false) ∧ Hid (Below w3.heap.size w3 wr)) (fun v _ => k - (intOf v).toNat)
  case atStart => exact ⟨0, Nat.zero_le _, rfl, by show ∀ j y, _; intro j y h; exact absurd h (by omega), Below.refl _ _⟩
  case round =>
    obtain ⟨j, hj, rfl, hA, KB⟩ := hrel
    have HBr := Lib.hid (below_then HB3.out KB.out)
    have B1r := Lib.hid (below_then B13.out KB.out)
    have s0 := sch_row (row_below S3.out KB.out)
    obtain ⟨f0, f1, f2, f3, f4, f5⟩ := tab_row (row_below R3.out KB.out)
    by_cases hlt : j < k
    · obtain ⟨b', o', y, hsa', hb', hy, _, hld'⟩ := HS.out.tab (show j < n by omega)
      cases hsa'
      obtain ⟨e0, e1, e2, e3, e4, e5⟩ := hld' wr B1r.out
      have HY := Lib.hid hy
      have y3 : (j : Int) < (k : Int) := by omega
      have y2 : (0 : Int) ≤ (j : Int) := by omega
      have y4 : (j : Int) < (n : Int) := by omega
      clear hld' hb' hy
      obtain ⟨q, hq⟩ : ∃ q, Hid (decide (y.nm = t.nm) = q) := ⟨_, rfl⟩
      have hq2 : (y.nm.toList == t.nm.toList) = q := by rw [← hq.out]; exact str_eq _ _
      cases q with
      | true =>
        have hE5 : Hid (E = 5) := by
          show _ = _
          have : th = true := by
            rw [← hth.out, hasN, List.any_eq_true]
            exact ⟨y, List.mem_of_getElem? (i := j) (by rw [List.getElem?_take, if_pos hlt]; exact HY.out), hq.out⟩
          rw [hE2.out, if_pos this]
        go_wp2_with fail
        refine wp_region_quiet_lit (by kernel_rfl) (by kernel_rfl) ?_
        repeat (with_reducible refine wpQuiet_step (fun K hK => ?_); go_simp; first | (with_reducible refine hK _ ?_; clear hK K) | (apply Exists.intro; with_reducible refine ⟨fun _ => ?_, hK _ ?_⟩; (fail); clear hK K))
        with_reducible refine wpQuiet_nil ?_
        intro _ hw'
        obtain ⟨nq, hw''⟩ := hw'
        subst hw''
        go_wp2_with fail
        go_ret
        exact ⟨ret_int hE5.out.symm, below_drewN HBr.out nq⟩
      | false =>
        have hA2 : Hid (∀ i z, i < j + 1 → l[i]? = some z → decide (z.nm = t.nm) = false) := by show ∀ j z, _; exact ahead_next (p := fun z : T6 => decide (z.nm = t.nm)) HY.out hq.out hA.out
        go_wp2_with fail
        refine wp_region_quiet_lit (by kernel_rfl) (by kernel_rfl) ?_
        repeat (with_reducible refine wpQuiet_step (fun K hK => ?_); go_simp; first | (with_reducible refine hK _ ?_; clear hK K) | (apply Exists.intro; with_reducible refine ⟨fun _ => ?_, hK _ ?_⟩; (fail); clear hK K))
        with_reducible refine wpQuiet_nil ?_
        intro _ hw'
        obtain ⟨nq, hw''⟩ := hw'
        subst hw''
        go_wp2_with fail
        exact ⟨⟨j + 1, by omega, by go_num, hA2, below_drewN KB.out nq⟩, by simp [intOf]; omega⟩
    · obtain rfl : j = k := by omega
      have hE5 : Hid (E = if sizeErr t = 0 then pe else sizeErr t) := by
        show _ = _
        have : th = false := by
          rw [← hth.out, hasN, List.any_eq_false]
          intro z hz
          obtain ⟨i, hi, rfl⟩ := List.getElem_of_mem hz
          rw [List.length_take] at hi
          rw [List.getElem_take]
          have := hA.out i _ (by omega) (List.getElem?_eq_getElem (by omega))
          rw [this]; simp
        rw [hE2.out, this]; rfl
      have y3 : ¬ (j : Int) < (j : Int) := by omega
      clear hE2 hA
      by_cases gnc0 : (t.nc : Int) < 1
      · have hf : Hid (E = 2) := by
          show _ = _
          have : sizeErr t = 2 := by rw [sizeErr, if_pos (by omega)]
          rw [hE5.out, this]; rfl
        go_wp2_with fail
        go_ret
        exact ⟨ret_int hf.out.symm, HBr.out⟩
      by_cases gnc : (16 : Int) < (t.nc : Int)
      · have hf : Hid (E = 2) := by
          show _ = _
          have : sizeErr t = 2 := by rw [sizeErr, if_pos (by omega)]
          rw [hE5.out, this]; rfl
        go_wp2_with fail
        go_ret
        exact ⟨ret_int hf.out.symm, HBr.out⟩
      by_cases gnh : (16 : Int) < (t.nh : Int)
      · have hf : Hid (E = 2) := by
          show _ = _
          have : sizeErr t = 2 := by rw [sizeErr, if_pos (by omega)]
          rw [hE5.out, this]; rfl
        go_wp2_with fail
        go_ret
        exact ⟨ret_int hf.out.symm, HBr.out⟩
      by_cases gnu : (16 : Int) < (t.nu : Int)
      · have hf : Hid (E = 2) := by
          show _ = _
          have : sizeErr t = 2 := by rw [sizeErr, if_pos (by omega)]
          rw [hE5.out, this]; rfl
        go_wp2_with fail
        go_ret
        exact ⟨ret_int hf.out.symm, HBr.out⟩
      by_cases gnf : (16 : Int) < (t.nf : Int)
      · have hf : Hid (E = 2) := by
          show _ = _
          have : sizeErr t = 2 := by rw [sizeErr, if_pos (by omega)]
          rw [hE5.out, this]; rfl
        go_wp2_with fail
        go_ret
        exact ⟨ret_int hf.out.symm, HBr.out⟩
      by_cases gns : (16 : Int) < (t.ns : Int)
      · have hf : Hid (E = 2) := by
          show _ = _
          have : sizeErr t = 2 := by rw [sizeErr, if_pos (by omega)]
          rw [hE5.out, this]; rfl
        go_wp2_with fail
        go_ret
        exact ⟨ret_int hf.out.symm, HBr.out⟩
      have hf : Hid (E = pe) := by
        show _ = _
        have : sizeErr t = 0 := by rw [sizeErr, if_neg (by omega)]
        rw [hE5.out, this]; rfl
      have C := Lib.hid (CP.out (by omega) wr B1r.out)
      go_wp2_with fail
      refine C.out.mono ?_
      rintro e w5 ⟨rfl, b5⟩
      have HB5 := Lib.hid (below_then HBr.out b5)
      clear C b5
      go_wp2_with fail
      go_ret
      exact ⟨ret_int hf.out.symm, HB5.out⟩
set_option maxHeartbeats 6400000 in
theorem refRight11_any (A : Option Addr) (n c : Nat) (l : List T6) (w : World) (h : RdS11 w A n c l) :
    Calls Tryz.prog 35 #[.agg #[.slice A n c]] w fun e w' => e = .returned (.int .i64 (rightE l)) ∧ Below w.heap.size w w' := by
  have hle := h.le
  have HL := Lib.hid h.len
  obtain ⟨w1, hw1⟩ : ∃ w1, w1 = w.alloc (schBox A n c) := ⟨_, rfl⟩
  have HW1 := Lib.hid hw1
  have HB1 : Hid (Below w.heap.size w w1) := by rw [hw1]; exact below_new (Below.refl _ _) _
  have R1 : Hid (w1.heap[w.heap.size]? = some (schBox A n c)) := by rw [hw1]; exact heap_alloc_new _ _
  have HR := Lib.hid (h.below HB1.out)
  obtain ⟨E, hE⟩ : ∃ E, Hid (rightE l = E) := ⟨_, rfl⟩
  rw [hE.out]
  have c0 := sch_row R1.out
  clear hw1 h
  go_enter Tryz.func35, Tryz.ntmps35
  go_upto_region 1 with fail
  rw [show w.alloc (schBox A n c) = w1 from HW1.out.symm]
  clear HW1
  by_cases hn0 : (n : Int) < 1
  · have hE2 : Hid (E = 2) := by show _ = _; rw [← hE.out, rightE, HL.out, if_pos (by omega)]
    go_wp2_with fail
    go_ret
    exact ⟨ret_int hE2.out.symm, HB1.out⟩
  by_cases hn16 : (16 : Int) < (n : Int)
  · have hE2 : Hid (E = 2) := by show _ = _; rw [← hE.out, rightE, HL.out, if_pos (by omega)]
    go_wp2_with fail
    go_ret
    exact ⟨ret_int hE2.out.symm, HB1.out⟩
  have hE2 : Hid (E = firstE n (fun i => tabErr n (l.take i) (l.getD i t60))) := by show _ = _; rw [← hE.out]; exact rightE_in HL.out (by omega) (by omega)
  go_wp2_with fail
  clear hE c0 hn0 hn16
  go_loopw [3] (fun i wr => ∃ k : Nat, k ≤ n ∧ i = .int .i64 k ∧ Hid (∀ j, j < k → tabErr n (l.take j) (l.getD j t60) = 0) ∧ Hid (Below w1.heap.size w1 wr)) (fun i _ => n - (intOf i).toNat)
  case atStart => exact ⟨0, Nat.zero_le _, rfl, by show ∀ j, _; intro j h; exact absurd h (by omega), Below.refl _ _⟩
  case round =>
    obtain ⟨k, hk, rfl, hA, KB⟩ := hrel
    have HB := Lib.hid (below_then HB1.out KB.out)
    have c0 := sch_row (row_below R1.out KB.out)
    by_cases hlt : k < n
    · obtain ⟨r, hr⟩ : ∃ r, Hid (tabErr n (l.take k) (l.getD k t60) = r) := ⟨_, rfl⟩
      have C := Lib.hid (refTabE_any A n c k l wr (HR.out.below KB.out) hlt)
      rw [hr.out] at C
      have y1 : (k : Int) < (n : Int) := by omega
      go_wp2_with fail
      refine C.out.mono ?_
      rintro e w2 ⟨rfl, b2⟩
      have KB2 := Lib.hid (below_then KB.out b2)
      have HB2 := Lib.hid (below_then HB1.out KB2.out)
      clear C b2 c0
      by_cases hr0 : r = 0
      · subst hr0
        have hA2 : Hid (∀ j, j < k + 1 → tabErr n (l.take j) (l.getD j t60) = 0) := by show ∀ j, _; exact zero_next (f := fun j => tabErr n (l.take j) (l.getD j t60)) hA.out hr.out
        clear hr
        go_wp2_with fail
        exact ⟨⟨k + 1, by omega, by go_num, hA2, KB2⟩, by simp [intOf]; omega⟩
      · have hf : Hid (E = r) := by
          show _ = _
          rw [hE2.out, firstE_one (k := k) hlt hA.out (by rw [hr.out]; exact hr0), hr.out]
        have q0 := beq_no hr0
        have q1 : (r != 0) = true := by simp [bne, q0]
        clear hr0
        go_wp2_with fail
        go_ret
        exact ⟨ret_int hf.out.symm, HB2.out⟩
    · obtain rfl : k = n := by omega
      have y1 : ¬ (k : Int) < (k : Int) := by omega
      have hf : Hid (E = 0) := by show _ = _; rw [hE2.out, firstE_zero]; exact hA.out
      go_wp2_with fail
      go_ret
      exact ⟨ret_int hf.out.symm, HB.out⟩
end Go.Proofs.YtfljhnalmiibeaaGreat

namespace Go.Proofs.YtfljhnalmiibeaaGreat
set_option maxRecDepth 100000
open Go.RowKit
theorem rightE_tab {l : List T6} (h : rightE l = 0) : l.length ≠ 0 ∧ l.length ≤ 16 ∧ ∀ k t, l[k]? = some t → tabErr l.length (l.take k) t = 0 := by
  unfold rightE at h
  split at h
  · exact absurd h (by decide)
  · rename_i hn
    refine ⟨by omega, by omega, fun k t ht => ?_⟩
    have hk := (List.getElem?_eq_some_iff.1 ht).1
    have := (firstE_zero _ _).1 h k hk
    rwa [getD_of ht] at this
theorem tabErr_ask {n : Nat} {a : List T6} {t : T6} (h : tabErr n a t = 0) (q : Nat) (hq : q < 7) (i : Nat) (hi : i < (askE n a t q).1) : (askE n a t q).2 i = 0 :=
  (firstE_zero _ _).1 ((firstE_zero _ _).1 h q hq) i hi
theorem tabErr_size {n : Nat} {a : List T6} {t : T6} (h : tabErr n a t = 0) : t.nc ≠ 0 ∧ t.nc ≤ 16 ∧ t.nh ≤ 16 ∧ t.nu ≤ 16 ∧ t.nf ≤ 16 ∧ t.ns ≤ 16 := by
  have h1 : sizeErr t = 0 := tabErr_ask h 1 (by decide) 0 (by simp [askE])
  unfold sizeErr at h1
  split at h1
  · exact absurd h1 (by decide)
  · omega
end Go.Proofs.YtfljhnalmiibeaaGreat

namespace Go.Proofs.YtfljhnalmiibeaaGreat
set_option maxRecDepth 100000
open Go.ChangeShapes Go.WideShapes Go.ChangeAt Go.RowKit
theorem okWide_arr {t e : TypeId} {m : Nat} {W : World} {base : Nat} {v : Value} (ht : Tryz.prog.underlying t = some (.array e m)) (hval : Value.okWide Tryz.prog W .any base t v) : ∃ cs, v = .agg cs ∧ cs.size = Tryz.prog.cellsOf t := by
  simp only [Value.okWide, ht] at hval
  obtain ⟨cs, h1, h2, _⟩ := hval
  exact ⟨cs, h1, h2⟩
end Go.Proofs.YtfljhnalmiibeaaGreat

namespace Go.Proofs.YtfljhnalmiibeaaGreat
theorem want13 : True := by
  have := @right7_any; have := @show_any7; have := @rightS_any; have := @showB_any; have := @rightT_any; have := @showT_any; have := @cntRight_any; have := @cntShow_any; have := @right11_any; have := @refSame7_any; have := @refDots_any; have := @open_schema; have := @refRight11_any; have := @open_cell; have := @rightE_tab; have := @open_arr2; have := @above_any; have := @right_val; have := @tabErr_size; have := @tabErr_ask; have := @dot_cells
  trivial
end Go.Proofs.YtfljhnalmiibeaaGreat

