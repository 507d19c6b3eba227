/- Layer 11: what is amiss in a unique column: the code's question, the document's answer. -/
import Derived.Test.YtogfnjlhfbpneaaSchAmiss
import Derived.Deep.QuietTactic
import Derived.Deep.RegionHeld3
namespace Go.Proofs.Ytogfnjlhfbpneaa
set_option maxRecDepth 100000
open Go.RowKit

theorem Rd.int {w : World} {A : Option Addr} {n c : Nat} {l : List Int} (h : Rd w A n c (vals .i64 l)) {k : Nat} (hk : k < n) :
    ∃ b o z, A = some ⟨b, o, none⟩ ∧ b < w.heap.size ∧ l[k]? = some z ∧ ∀ w', Below w.heap.size w w' → w'.cell? ⟨b, o + k, none⟩ = some (.int .i64 z) := by
  obtain ⟨hl, _, _, hx⟩ := h
  obtain ⟨b, o, rfl, hb, hc⟩ := hx (by omega)
  have hkl : k < l.length := by rw [vals, List.length_map] at hl; omega
  refine ⟨b, o, l[k], rfl, hb, List.getElem?_eq_getElem hkl, fun w' hw => ?_⟩
  rw [hw.cell hb, hc k (by rw [vals, List.length_map]; exact hkl)]
  simp [vals]
theorem sbelow_drewN {B : Nat} {w0 w : World} (h : Below B w0 w) : ∀ n, Below B w0 (w.drewN n)
  | 0 => h
  | n + 1 => (sbelow_drewN h n).drew
theorem getD_of {α : Type} {l : List α} {k : Nat} {x d : α} (h : l[k]? = some x) : l.getD k d = x := by
  rw [List.getD, h]; rfl
theorem RdG.colAt {w : World} {A : Option Addr} {n c : Nat} {l : List C4} (h : RdC w A n c l) {col : Int} (hb : bindB n col = true) :
    ∃ b o, A = some ⟨b, o, none⟩ ∧ b < w.heap.size ∧ (0 ≤ col ∧ col < (n : Int)) ∧ ∀ w', Below w.heap.size w w' → w'.cell? ⟨b, o + col.toNat * 4, none⟩ = some (.string (colOf l col).nm) ∧ w'.cell? ⟨b, o + col.toNat * 4 + 1, none⟩ = some (.int .i64 (colOf l col).k) ∧ w'.cell? ⟨b, o + col.toNat * 4 + 2, none⟩ = some (.int .i64 (colOf l col).t) ∧ w'.cell? ⟨b, o + col.toNat * 4 + 3, none⟩ = some (.bool (colOf l col).z) := by
  simp only [bindB, Bool.and_eq_true, decide_eq_true_eq] at hb
  obtain ⟨b, o, x, rfl, h1, hx, hc⟩ := h.col (k := col.toNat) (by omega)
  rw [show colOf l col = x from getD_of hx]
  exact ⟨b, o, rfl, h1, by omega, hc⟩

set_option maxHeartbeats 3200000 in
theorem uniqueAmiss_any (t : T6) (i : Nat) (w : World) (h : t.Reads w) (hi : i < t.nu) :
    Calls Try.prog 43 #[t.agg, .int .i64 i] w fun e w' => e = .returned (.int .i64 (uniErr t.cols t.uni i)) ∧ Below w.heap.size w w' := by
  obtain ⟨w1, hw1⟩ : ∃ w1, w1 = w.alloc (tabBox t) := ⟨_, rfl⟩
  have HW1 := Lib.hid hw1
  have HB1 : Hid (Below w.heap.size w w1) := by rw [hw1]; exact below_new (Below.refl _ _) _
  have R1 : Hid (w1.heap[w.heap.size]? = some (tabBox t)) := by rw [hw1]; exact heap_alloc_new _ _
  have HU := Lib.hid (h.uni.below HB1.out); have HC := Lib.hid (h.cols.below HB1.out); have HCL := Lib.hid h.cols.len
  obtain ⟨b, o, z, hua, hb, hz, hld⟩ := HU.out.int hi
  have hule := h.uni.le
  have HUA := Lib.hid hua; have HBB := Lib.hid hb; have HZ := Lib.hid hz; have HLD := Lib.hid hld
  have u0 := hld w1 (Below.refl _ _)
  obtain ⟨bd, hbd⟩ : ∃ bd, Hid (bindB t.nc z = bd) := ⟨_, rfl⟩
  obtain ⟨rg, hrg⟩ : ∃ rg, Hid (regB (colOf t.cols z) = rg) := ⟨_, rfl⟩
  obtain ⟨E, hEE⟩ : ∃ E, Hid (uniErr t.cols t.uni i = E) := ⟨_, rfl⟩
  have hE : Hid (E = if bd = false then 4 else if 0 < i ∧ z ≤ t.uni.getD (i - 1) 0 then 1 else if rg = false then 6 else 0) := by
    show _ = _
    rw [← hEE.out, uniErr, getD_of hz, HCL.out, hbd.out, hrg.out]
  rw [hEE.out]
  have CB : Hid (∀ W, Calls Try.prog 52 #[.agg #[.string t.nm, .slice t.ca t.nc t.cc, .slice (some ⟨b, o, none⟩) t.nu t.uc, .slice t.ha t.nh t.hc, .slice t.fa t.nf t.fc, .slice t.sa t.ns t.sc], .int .i64 z] W fun e w' => e = .returned (.bool bd) ∧ Below W.heap.size W w') := fun W => by rw [← hbd.out, ← hua]; exact bindable_any t z W
  have CR : Hid (∀ W, Calls Try.prog 51 #[.agg #[.string (colOf t.cols z).nm, .int .i64 (colOf t.cols z).k, .int .i64 (colOf t.cols z).t, .bool (colOf t.cols z).z]] W fun e w' => e = .returned (.bool rg) ∧ Below W.heap.size W w') := fun W => by rw [← hrg.out]; exact register_any _ W
  obtain ⟨c0, c1, c2, c3, c4, c5⟩ := tab_row R1.out
  rw [hua] at c2
  have y1 : (i : Int) < (t.nu : Int) := by omega
  have y0 : (0 : Int) ≤ (i : Int) := by omega
  clear h hw1 hEE hrg hua hb hz hld
  go_enter Try.func43, Try.ntmps43
  go_upto_region 1 with fail
  rw [show w.alloc (tabBox t) = w1 from HW1.out.symm]
  clear HW1
  go_wp2_with fail
  refine (CB.out _).mono ?_
  rintro e w2 ⟨rfl, b2⟩
  have HB2 := Lib.hid (below_then HB1.out b2)
  have R2 := Lib.hid (row_below R1.out b2)
  have HL2 := Lib.hid (HLD.out w2 b2)
  have HW12 := Lib.hid b2
  clear b2 CB R1 c0 c1 c2 c3 c4 c5 u0
  cases bd with
  | false =>
    go_wp2_with fail
    go_ret
    exact ⟨ret_int (by rw [hE.out]; rfl), HB2.out⟩
  | true =>
    obtain ⟨bc, oc, hca, hbc, ⟨z0, z1⟩, hcl⟩ := HC.out.colAt hbd.out
    obtain ⟨d0, d1, d2, d3⟩ := hcl w2 HW12.out
    obtain ⟨c0, c1, c2, c3, c4, c5⟩ := tab_row R2.out
    rw [HUA.out] at c2
    rw [hca] at c1
    clear hcl hca hbc hbd
    by_cases hi0 : 0 < i
    · obtain ⟨b', o', y, hua', hb', hy, hld'⟩ := HU.out.int (show i - 1 < t.nu by omega)
      have ea := HUA.out.symm.trans hua'
      cases ea
      have e0 := hld' w2 HW12.out
      have y2 : (0 : Int) < (i : Int) := by omega
      have y3 : IntKind.i64.wrap ((i : Int) - 1) = (i : Int) - 1 := wrap_is (by omega)
      have y4 : ((i : Int) - 1).toNat = i - 1 := by omega
      have y5 : (0 : Int) ≤ (i : Int) - 1 := by omega
      have y6 : (i : Int) - 1 < (t.nu : Int) := by omega
      have y7 : (1 : Int) ≤ (i : Int) := by omega
      have hE2 : Hid (E = if z ≤ y then 1 else if rg = false then 6 else 0) := by
        show _ = _
        rw [hE.out, getD_of hy]; simp [hi0]
      clear hld' hb' hua' hy hE
      by_cases hzy : z ≤ y
      · have hE3 : Hid (E = 1) := by show _ = _; rw [hE2.out, if_pos hzy]
        clear hi0
        go_wp2_with fail
        go_ret
        exact ⟨ret_int hE3.out.symm, HB2.out⟩
      · have hE3 : Hid (E = if rg = false then 6 else 0) := by show _ = _; rw [hE2.out, if_neg hzy]
        clear hi0 hE2
        go_wp2_with fail
        refine (CR.out _).mono ?_
        rintro e w3 ⟨rfl, b3⟩
        have HB3 := Lib.hid (below_then HB2.out b3)
        clear b3 CR
        cases rg with
        | false =>
          go_wp2_with fail
          go_ret
          exact ⟨ret_int (by rw [hE3.out]; rfl), HB3.out⟩
        | true =>
          go_wp2_with fail
          go_ret
          exact ⟨ret_int (by rw [hE3.out]; rfl), HB3.out⟩
    · have y2 : ¬ (0 : Int) < (i : Int) := by omega
      have hE3 : Hid (E = if rg = false then 6 else 0) := by show _ = _; rw [hE.out]; simp [hi0]
      clear hi0 hE
      go_wp2_with fail
      refine (CR.out _).mono ?_
      rintro e w3 ⟨rfl, b3⟩
      have HB3 := Lib.hid (below_then HB2.out b3)
      clear b3 CR
      cases rg with
      | false =>
        go_wp2_with fail
        go_ret
        exact ⟨ret_int (by rw [hE3.out]; rfl), HB3.out⟩
      | true =>
        go_wp2_with fail
        go_ret
        exact ⟨ret_int (by rw [hE3.out]; rfl), HB3.out⟩

set_option maxHeartbeats 3200000 in
theorem number_any (t : T6) (col : Int) (w : World) (h : RdC w t.ca t.nc t.cc t.cols) :
    Calls Try.prog 61 #[t.agg, .int .i64 col] w fun e w' => e = .returned (.tuple #[.bool (bindB t.nc col), .bool (bindB t.nc col && regB (colOf t.cols col))]) ∧ Below w.heap.size w w' := by
  obtain ⟨w1, hw1⟩ : ∃ w1, w1 = w.alloc (tabBox t) := ⟨_, rfl⟩
  have HW1 := Lib.hid hw1
  have HB1 : Hid (Below w.heap.size w w1) := by rw [hw1]; exact below_new (Below.refl _ _) _
  have R1 : Hid (w1.heap[w.heap.size]? = some (tabBox t)) := by rw [hw1]; exact heap_alloc_new _ _
  have HC := Lib.hid (h.below HB1.out)
  obtain ⟨bd, hbd⟩ : ∃ bd, Hid (bindB t.nc col = bd) := ⟨_, rfl⟩
  obtain ⟨rg, hrg⟩ : ∃ rg, Hid (regB (colOf t.cols col) = rg) := ⟨_, rfl⟩
  rw [hbd.out, hrg.out]
  clear hw1 h
  cases bd with
  | false =>
    rw [Bool.false_and]
    obtain ⟨c0, c1, c2, c3, c4, c5⟩ := tab_row R1.out
    have hno : Hid (col < 1 ∨ (t.nc : Int) ≤ col) := by
      have := hbd.out
      simp only [bindB, Bool.and_eq_false_iff, decide_eq_false_iff_not] at this
      show _ ∨ _
      omega
    clear hbd hrg
    go_enter Try.func61, Try.ntmps61
    go_upto_region 1 with fail
    rw [show w.alloc (tabBox t) = w1 from HW1.out.symm]
    clear HW1
    by_cases h1 : col < 1
    · go_wp2_with fail
      go_ret2
      exact ⟨rfl, HB1.out⟩
    · have h2 : (t.nc : Int) ≤ col := by rcases hno.out with h | h; exact absurd h h1; exact h
      go_wp2_with fail
      go_ret2
      exact ⟨rfl, HB1.out⟩
  | true =>
    rw [Bool.true_and]
    obtain ⟨bc, oc, hca, hbc, ⟨z0, z1⟩, hcl⟩ := HC.out.colAt hbd.out
    obtain ⟨d0, d1, d2, d3⟩ := hcl w1 (Below.refl _ _)
    obtain ⟨c0, c1, c2, c3, c4, c5⟩ := tab_row R1.out
    rw [hca] at c1
    have h1 : ¬ col < 1 := by
      have := hbd.out
      simp only [bindB, Bool.and_eq_true, decide_eq_true_eq] at this
      omega
    have h2 : ¬ (t.nc : Int) ≤ col := by omega
    generalize colOf t.cols col = x at d0 d1 d2 d3 hrg
    obtain ⟨q, hq⟩ : ∃ q, (x.k == 0) = q := ⟨_, rfl⟩
    obtain ⟨r, hr⟩ : ∃ r, (x.t == 1) = r := ⟨_, rfl⟩
    have h3 : Hid (rg = (q && r)) := by show _ = _; rw [← hrg.out, regB, hq, hr]
    clear hcl hca hbc hbd hrg
    go_enter Try.func61, Try.ntmps61
    go_upto_region 1 with fail
    rw [show w.alloc (tabBox t) = w1 from HW1.out.symm]
    clear HW1
    cases q with
    | true =>
      go_wp2_with fail
      go_quiet (fail)
      go_wp2_with fail
      go_ret2
      exact ⟨by rw [h3.out]; rfl, sbelow_drewN HB1.out _⟩
    | false =>
      go_wp2_with fail
      go_quiet (fail)
      go_wp2_with fail
      go_ret2
      exact ⟨by rw [h3.out]; rfl, sbelow_drewN HB1.out _⟩
end Go.Proofs.Ytogfnjlhfbpneaa
