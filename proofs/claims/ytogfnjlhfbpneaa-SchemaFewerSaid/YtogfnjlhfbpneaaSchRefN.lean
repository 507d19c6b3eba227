/- Layer 11: the document's Name, Table, Column. -/
import Derived.Test.YtogfnjlhfbpneaaSchFind
namespace Go.Proofs.Ytogfnjlhfbpneaa
set_option maxRecDepth 100000
open Go.RowKit

set_option maxHeartbeats 3200000 in
theorem refName_any (s : ByteArray) (w : World) : Calls Try.prog 12 #[.string s] w fun e w' => e = .returned (.bool (nameZ s)) ∧ Below w.heap.size w w' := by
  obtain ⟨r, hr⟩ : ∃ r, Hid (nameZ s = r) := ⟨_, rfl⟩
  rw [hr.out]
  have HB0 := Lib.hid (Below.refl w.heap.size w)
  obtain ⟨n, hn⟩ : ∃ n, s.size = n := ⟨_, rfl⟩
  have HN := Lib.hid hn
  go_enter Try.func12, Try.ntmps12
  by_cases h1 : n < 1
  · have h3 : Hid (r = false) := by show _ = _; rw [← hr.out]; exact nameZ_small (by rw [HN.out]; exact h1)
    have h2 : (n : Int) < 1 := by omega
    go_wp2
    go_ret
    exact ⟨ret_bool h3.out.symm, HB0.out⟩
  · by_cases h2 : n ≤ 12
    · obtain ⟨b, hb⟩ : ∃ b, (sbytes s)[0]? = some b := ⟨_, List.getElem?_eq_getElem (by rw [sbytes_len]; omega)⟩
      have IX := fun W => sbytes_at0 hb W
      have z1 : ¬ (n : Int) < 1 := by omega
      have z2 : ¬ (12 : Int) < (n : Int) := by omega
      by_cases l1 : b < 97
      · have h3 : Hid (r = false) := by show _ = _; rw [← hr.out]; exact nameZ_low hb (by simp [lowB]; omega)
        clear hb
        go_wp2_with fail
        go_ret
        exact ⟨ret_bool h3.out.symm, HB0.out⟩
      · by_cases l2 : 122 < b
        · have h3 : Hid (r = false) := by show _ = _; rw [← hr.out]; exact nameZ_low hb (by simp [lowB]; omega)
          clear hb
          go_wp2_with fail
          go_ret
          exact ⟨ret_bool h3.out.symm, HB0.out⟩
        · have h3 : Hid (r = (sbytes s).all okB) := by show _ = _; rw [← hr.out]; exact nameZ_ok (by omega) (by omega) hb (by simp [lowB]; omega)
          clear hb hr
          go_wp2_with fail
          clear IX l1 l2
          go_loopw [3] (fun i wr => ∃ k : Nat, k ≤ n ∧ i = .int .i64 k ∧ Hid (r = ((sbytes s).drop k).all okB) ∧ Hid (Below w.heap.size w wr)) (fun i _ => n - (intOf i).toNat)
          case atStart => exact ⟨0, Nat.zero_le _, rfl, by show _ = _; rw [h3.out]; rfl, HB0⟩
          case round =>
            clear HB0 h3
            obtain ⟨k, hk, rfl, h3, HB⟩ := hrel
            by_cases hlt : k < n
            · obtain ⟨b, hb⟩ : ∃ b, (sbytes s)[k]? = some b := ⟨_, List.getElem?_eq_getElem (by rw [sbytes_len]; omega)⟩
              have IX := fun W => sbytes_at hb W
              have h4 : Hid (r = (okB b && ((sbytes s).drop (k + 1)).all okB)) := by show _ = _; rw [h3.out]; exact sbytes_drop hb _
              have y1 : (k : Int) < (n : Int) := by omega
              clear hb h3
              by_cases l1 : 97 ≤ b
              · have l3 : 48 ≤ b := by omega
                have l4 : ¬ b ≤ 57 := by omega
                by_cases l2 : b ≤ 122
                · have h5 : Hid (r = ((sbytes s).drop (k + 1)).all okB) := by show _ = _; rw [h4.out]; simp [okB, lowB, l1, l2]
                  go_wp2_with fail
                  exact ⟨⟨k + 1, by omega, by go_num, h5, HB⟩, by simp [intOf]; omega⟩
                · have e9 : (b == 95) = false := by simp; omega
                  have h5 : Hid (r = false) := by show _ = _; rw [h4.out]; simp [okB, lowB, digB, l2, l4]; omega
                  go_wp2_with fail
                  go_ret
                  exact ⟨ret_bool h5.out.symm, HB.out⟩
              · by_cases l3 : 48 ≤ b
                · by_cases l4 : b ≤ 57
                  · have h5 : Hid (r = ((sbytes s).drop (k + 1)).all okB) := by show _ = _; rw [h4.out]; simp [okB, digB, l3, l4]
                    go_wp2_with fail
                    exact ⟨⟨k + 1, by omega, by go_num, h5, HB⟩, by simp [intOf]; omega⟩
                  · by_cases l5 : b = 95
                    · subst l5
                      have h5 : Hid (r = ((sbytes s).drop (k + 1)).all okB) := by show _ = _; rw [h4.out]; simp [okB]
                      go_wp2_with fail
                      exact ⟨⟨k + 1, by omega, by go_num, h5, HB⟩, by simp [intOf]; omega⟩
                    · have e9 : (b == 95) = false := by simpa using l5
                      have h5 : Hid (r = false) := by show _ = _; rw [h4.out]; simp [okB, lowB, digB, l1, l4, l5]
                      go_wp2_with fail
                      go_ret
                      exact ⟨ret_bool h5.out.symm, HB.out⟩
                · have e9 : (b == 95) = false := by simp; omega
                  have l5 : ¬ b = 95 := by omega
                  have h5 : Hid (r = false) := by show _ = _; rw [h4.out]; simp [okB, lowB, digB, l1, l3, l5]
                  go_wp2_with fail
                  go_ret
                  exact ⟨ret_bool h5.out.symm, HB.out⟩
            · have h5 : Hid (r = true) := by show _ = _; rw [h3.out, List.drop_of_length_le (by rw [sbytes_len]; omega)]; rfl
              have y1 : ¬ (k : Int) < (n : Int) := by omega
              go_wp2_with fail
              go_ret
              exact ⟨ret_bool h5.out.symm, HB.out⟩
    · have h3 : Hid (r = false) := by show _ = _; rw [← hr.out]; exact nameZ_great (by rw [HN.out]; exact h2)
      have z1 : ¬ (n : Int) < 1 := by omega
      have z2 : (12 : Int) < (n : Int) := by omega
      go_wp2
      go_ret
      exact ⟨ret_bool h3.out.symm, HB0.out⟩

set_option maxHeartbeats 1600000 in
theorem refTable_any (A : Option Addr) (n c : Nat) (l : List T6) (s : ByteArray) (w : World) (h : RdS w A n c l) :
    Calls Try.prog 17 #[.agg #[.slice A n c], .string s] w fun e w' => e = .returned (.tuple #[.int .i64 (at0 (tableP l s)), .bool (tableP l s).isSome]) ∧ Below w.heap.size w w' := by
  have hle := h.le
  have HL := Lib.hid h.len
  obtain ⟨w1, hw1⟩ : ∃ w1, w1 = w.alloc (schBox A n c) := ⟨_, rfl⟩
  have HW1 := Lib.hid hw1
  have HB1 : Hid (Below w.heap.size w w1) := by rw [hw1]; exact below_new (Below.refl _ _) _
  have r0 : Hid (w1.heap[w.heap.size]? = some (schBox A n c)) := by rw [hw1]; exact heap_alloc_new _ _
  have HR := Lib.hid (h.below HB1.out)
  obtain ⟨o, ho⟩ : ∃ o, Hid (findP (fun t : T6 => decide (t.nm = s)) l = o) := ⟨_, rfl⟩
  rw [show tableP l s = o from ho.out]
  clear hw1 h
  go_enter Try.func17, Try.ntmps17
  go_upto_region 1 with fail
  rw [show w.alloc (schBox A n c) = w1 from HW1.out.symm]
  clear HW1
  go_wp2_with fail
  go_loopw [6] (fun i wr => ∃ k : Nat, k ≤ n ∧ i = .int .i64 k ∧ Hid (∀ j y, j < k → l[j]? = some y → decide (y.nm = s) = false) ∧ wr = w1) (fun i _ => n - (intOf i).toNat)
  case atStart => exact ⟨0, Nat.zero_le _, rfl, by show ∀ j y, _; intro j y h; exact absurd h (by omega), rfl⟩
  case round =>
    obtain ⟨k, hk, rfl, hA, rfl⟩ := hrel
    have c0 := sch_row r0.out
    by_cases hlt : k < n
    · obtain ⟨b, o', x, rfl, hb, hx, hxr, hld⟩ := HR.out.tab hlt
      obtain ⟨d0, d1, d2, d3, d4, d5⟩ := hld wr (Below.refl _ _)
      have y1 : (k : Int) < (n : Int) := by omega
      have y0 : (0 : Int) ≤ (k : Int) := by omega
      obtain ⟨q, hq⟩ : ∃ q, Hid (decide (x.nm = s) = q) := ⟨_, rfl⟩
      have hq2 : (x.nm.toList == s.toList) = q := by rw [← hq.out]; exact str_eq _ _
      have HX := Lib.hid hx
      clear hld hx hxr hb d1 d2 d3 d4 d5
      cases q with
      | true =>
        have h3 : Hid (o = some k) := by show _ = _; rw [← ho.out]; exact findP_hit HX.out hq.out hA.out
        go_wp2_with fail
        go_ret2
        exact ⟨by rw [h3.out]; rfl, HB1.out⟩
      | false =>
        have h3 : Hid (∀ j y, j < k + 1 → l[j]? = some y → decide (y.nm = s) = false) := by show ∀ j y, _; exact ahead_next (p := fun t : T6 => decide (t.nm = s)) HX.out hq.out hA.out
        go_wp2_with fail
        exact ⟨⟨k + 1, by omega, by go_num, h3, trivial⟩, by simp [intOf]; omega⟩
    · obtain rfl : k = n := by omega
      have h3 : Hid (o = none) := by show _ = _; rw [← ho.out]; exact findP_miss (Nat.le_of_eq HL.out) hA.out
      have y1 : ¬ (k : Int) < (k : Int) := by omega
      go_wp2_with fail
      go_ret2
      exact ⟨by rw [h3.out]; rfl, HB1.out⟩

set_option maxHeartbeats 1600000 in
theorem refColumn_any (t : T6) (s : ByteArray) (w : World) (h : RdC w t.ca t.nc t.cc t.cols) :
    Calls Try.prog 19 #[t.agg, .string s] w fun e w' => e = .returned (.tuple #[.int .i64 (at0 (columnP t.cols s)), .bool (columnP t.cols s).isSome]) ∧ Below w.heap.size w w' := by
  have hle := h.le
  have HL := Lib.hid h.len
  obtain ⟨w1, hw1⟩ : ∃ w1, w1 = w.alloc (tabBox t) := ⟨_, rfl⟩
  have HW1 := Lib.hid hw1
  have HB1 : Hid (Below w.heap.size w w1) := by rw [hw1]; exact below_new (Below.refl _ _) _
  have r0 : Hid (w1.heap[w.heap.size]? = some (tabBox t)) := by rw [hw1]; exact heap_alloc_new _ _
  have HR := Lib.hid (h.below HB1.out)
  obtain ⟨l, hl⟩ : ∃ l, t.cols = l := ⟨_, rfl⟩
  obtain ⟨o, ho⟩ : ∃ o, Hid (findP (fun t : C4 => decide (t.nm = s)) l = o) := ⟨_, rfl⟩
  rw [hl] at HR HL
  rw [show columnP t.cols s = o by rw [hl]; exact ho.out]
  obtain ⟨c0, c1, c2, c3, c4, c5⟩ := tab_row r0.out
  clear hw1 h hl
  go_enter Try.func19, Try.ntmps19
  go_upto_region 1 with fail
  rw [show w.alloc (tabBox t) = w1 from HW1.out.symm]
  clear HW1 r0 c0 c2 c3 c4 c5
  go_wp2_with fail
  go_loopw [6] (fun i wr => ∃ k : Nat, k ≤ t.nc ∧ i = .int .i64 k ∧ Hid (∀ j y, j < k → l[j]? = some y → decide (y.nm = s) = false) ∧ wr = w1) (fun i _ => t.nc - (intOf i).toNat)
  case atStart => exact ⟨0, Nat.zero_le _, rfl, by show ∀ j y, _; intro j y h; exact absurd h (by omega), rfl⟩
  case round =>
    obtain ⟨k, hk, rfl, hA, rfl⟩ := hrel
    by_cases hlt : k < t.nc
    · obtain ⟨b, o', x, e0, hb, hx, hld⟩ := HR.out.col hlt
      rw [e0] at c1
      obtain ⟨d0, d1, d2, d3⟩ := hld wr (Below.refl _ _)
      have y1 : (k : Int) < (t.nc : Int) := by omega
      have y0 : (0 : Int) ≤ (k : Int) := by omega
      obtain ⟨q, hq⟩ : ∃ q, Hid (decide (x.nm = s) = q) := ⟨_, rfl⟩
      have hq2 : (x.nm.toList == s.toList) = q := by rw [← hq.out]; exact str_eq _ _
      have HX := Lib.hid hx
      clear e0 hld hx hb d1 d2 d3
      cases q with
      | true =>
        have h3 : Hid (o = some k) := by show _ = _; rw [← ho.out]; exact findP_hit HX.out hq.out hA.out
        go_wp2_with fail
        go_ret2
        exact ⟨by rw [h3.out]; rfl, HB1.out⟩
      | false =>
        have h3 : Hid (∀ j y, j < k + 1 → l[j]? = some y → decide (y.nm = s) = false) := by show ∀ j y, _; exact ahead_next (p := fun t : C4 => decide (t.nm = s)) HX.out hq.out hA.out
        go_wp2_with fail
        exact ⟨⟨k + 1, by omega, by go_num, h3, trivial⟩, by simp [intOf]; omega⟩
    · obtain rfl : k = t.nc := by omega
      have h3 : Hid (o = none) := by show _ = _; rw [← ho.out]; exact findP_miss (Nat.le_of_eq HL.out) hA.out
      have y1 : ¬ (t.nc : Int) < (t.nc : Int) := by omega
      go_wp2_with fail
      go_ret2
      exact ⟨by rw [h3.out]; rfl, HB1.out⟩
end Go.Proofs.Ytogfnjlhfbpneaa
