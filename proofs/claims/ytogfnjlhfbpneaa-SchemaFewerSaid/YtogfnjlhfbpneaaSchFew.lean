/- Layer 11: Few. -/
import Derived.Test.YtogfnjlhfbpneaaSchKids
namespace Go.Proofs.Ytogfnjlhfbpneaa
set_option maxRecDepth 100000
open Go.RowKit

/-- a table of a size that there is memory for -/
def T6.Small (t : T6) : Prop := sizeT t ≤ 1000000000000000
theorem sumT_take {l : List T6} {k : Nat} {t : T6} (h : l[k]? = some t) : sumT (l.take (k + 1)) = sumT (l.take k) + sizeT t := by
  rw [List.take_add_one, h]
  simp [sumT]
theorem sumT_le : ∀ (l : List T6), (∀ t ∈ l, t.Small) → sumT l ≤ l.length * 1000000000000000
  | [], _ => by simp [sumT]
  | t :: l, h => by
    have h1 : sizeT t ≤ _ := h t (by simp)
    have h2 := sumT_le l (fun x hx => h x (List.mem_cons_of_mem _ hx))
    simp only [sumT, List.map_cons, List.sum_cons, List.length_cons] at *
    omega

set_option maxHeartbeats 3200000 in
theorem refFew_any (A : Option Addr) (n c : Nat) (l : List T6) (w : World) (h : RdS w A n c l) (hsm : ∀ t ∈ l, t.Small) :
    Calls Try.prog 13 #[.agg #[.slice A n c]] w fun e w' => e = .returned (.bool (fewB l)) ∧ Below w.heap.size w w' := by
  have hle := h.le
  have HL := Lib.hid h.len
  have HSM := Lib.hid hsm
  obtain ⟨w1, hw1⟩ : ∃ w1, w1 = w.alloc (schBox A n c) := ⟨_, rfl⟩
  have HW1 := Lib.hid hw1
  have HB1 : Hid (Below w.heap.size w w1) := by rw [hw1]; exact below_new (Below.refl _ _) _
  have r0 : Hid (w1.heap[w.heap.size]? = some (schBox A n c)) := by rw [hw1]; exact heap_alloc_new _ _
  have HR := Lib.hid (h.below HB1.out)
  obtain ⟨F, hF⟩ : ∃ F, Hid (fewB l = F) := ⟨_, rfl⟩
  rw [hF.out]
  clear hw1 h hsm
  go_enter Try.func13, Try.ntmps13
  go_upto_region 1 with fail
  rw [show w.alloc (schBox A n c) = w1 from HW1.out.symm]
  clear HW1
  go_wp2_with fail
  go_loopw [3, 4] (fun v i wr => ∃ (k : Nat) (z : Int), k ≤ n ∧ v = .int .i64 z ∧ i = .int .i64 k ∧ Hid (n ≤ 20 → z = (sumT (l.take k) : Int)) ∧ Hid (Below w1.heap.size w1 wr)) (fun _ i _ => n - (intOf i).toNat)
  case atStart => exact ⟨0, 0, Nat.zero_le _, rfl, rfl, by show _ → _; intro _; rfl, Below.refl _ _⟩
  case round =>
    obtain ⟨k, z, hk, rfl, rfl, hD, KB⟩ := hrel
    have c0 : wr.cell? ⟨w.heap.size, 0, none⟩ = some (.slice A n c) := (KB.out.cell (p := ⟨w.heap.size, 0, none⟩) (block_lt_of_cell (sch_row r0.out))).trans (sch_row r0.out)
    by_cases hlt : k < n
    · obtain ⟨b, o', t, rfl, hb, hx, hxr, hld⟩ := HR.out.tab hlt
      obtain ⟨d0, d1, d2, d3, d4, d5⟩ := hld wr KB.out
      have y1 : (k : Int) < (n : Int) := by omega
      have y0 : (0 : Int) ≤ (k : Int) := by omega
      have HSZ := Lib.hid KB.out.size
      obtain ⟨w2, hw2⟩ : ∃ w2, w2 = wr.alloc (tabBox t) := ⟨_, rfl⟩
      have HW2 := Lib.hid hw2
      have KB2 : Hid (Below w1.heap.size w1 w2) := by rw [hw2]; exact below_new KB.out _
      have r2 : w2.heap[wr.heap.size]? = some (tabBox t) := by rw [hw2]; exact heap_alloc_new _ _
      obtain ⟨e0, e1, e2, e3, e4, e5⟩ := tab_row r2
      have HX := Lib.hid hx
      have HT : Hid (sizeT t ≤ 1000000000000000) := HSM.out t (List.mem_of_getElem? hx)
      clear hw2 r2 hld hb hx hxr KB
      go_upto_region 6 with fail
      rw [show wr.alloc (tabBox t) = w2 from HW2.out.symm]
      clear HW2 d0 d1 d2 d3 d4 d5
      by_cases hn : n ≤ 20
      · have hz := hD.out hn
        have hbd : (sumT (l.take k) : Int) ≤ 20 * 1000000000000000 := by
          have h1 := sumT_le (l.take k) (fun t ht => HSM.out t (List.mem_of_mem_take ht))
          rw [List.length_take] at h1
          have h2 : min k l.length ≤ 20 := by omega
          have h3 := Nat.mul_le_mul_right 1000000000000000 h2
          omega
        have ht := HT.out
        simp only [sizeT] at ht
        have v1 : IntKind.i64.wrap (z + (t.nc : Int)) = z + (t.nc : Int) := wrap_is (by omega)
        have v2 : IntKind.i64.wrap (z + (t.nc : Int) + (t.nu : Int)) = z + (t.nc : Int) + (t.nu : Int) := wrap_is (by omega)
        have v3 : IntKind.i64.wrap (z + (t.nc : Int) + (t.nu : Int) + (t.nh : Int)) = z + (t.nc : Int) + (t.nu : Int) + (t.nh : Int) := wrap_is (by omega)
        have v4 : IntKind.i64.wrap (z + (t.nc : Int) + (t.nu : Int) + (t.nh : Int) + (t.nf : Int)) = z + (t.nc : Int) + (t.nu : Int) + (t.nh : Int) + (t.nf : Int) := wrap_is (by omega)
        have v5 : IntKind.i64.wrap (z + (t.nc : Int) + (t.nu : Int) + (t.nh : Int) + (t.nf : Int) + (t.ns : Int)) = z + (t.nc : Int) + (t.nu : Int) + (t.nh : Int) + (t.nf : Int) + (t.ns : Int) := wrap_is (by omega)
        have hD2 : Hid (n ≤ 20 → z + (t.nc : Int) + (t.nu : Int) + (t.nh : Int) + (t.nf : Int) + (t.ns : Int) = (sumT (l.take (k + 1)) : Int)) := by
          show _ → _
          intro _
          rw [sumT_take HX.out, hz]
          simp only [sizeT]
          omega
        clear hz hbd ht hD hn
        go_wp2_with fail
        exact ⟨⟨k + 1, _, by omega, rfl, by go_num, hD2, KB2⟩, by simp [intOf]; omega⟩
      · have hD2 : Hid (¬ n ≤ 20) := hn
        clear hD hn
        go_wp2_with fail
        exact ⟨⟨k + 1, _, by omega, rfl, by go_num, by show _ → _; exact fun h => absurd h hD2.out, KB2⟩, by simp [intOf]; omega⟩
    · obtain rfl : k = n := by omega
      have y1 : ¬ (k : Int) < (k : Int) := by omega
      have HBf := Lib.hid (below_then HB1.out KB.out)
      by_cases hn : k ≤ 20
      · have hz : Hid (z = (sumT l : Int)) := by
          show _ = _
          have := hD.out hn
          rwa [List.take_of_length_le (by rw [HL.out]; exact Nat.le_refl _)] at this
        have y2 : (k : Int) ≤ 20 := by omega
        by_cases hs : z ≤ 400
        · have h3 : Hid (F = true) := by
            show _ = _
            rw [← hF.out, fewB, HL.out]
            have := hz.out
            simp [hn]; omega
          clear hD hn
          go_wp2_with fail
          go_ret
          exact ⟨ret_bool h3.out.symm, HBf.out⟩
        · have h3 : Hid (F = false) := by
            show _ = _
            rw [← hF.out, fewB, HL.out]
            have := hz.out
            simp [hn]; omega
          clear hD hn
          go_wp2_with fail
          go_ret
          exact ⟨ret_bool h3.out.symm, HBf.out⟩
      · have h3 : Hid (F = false) := by
          show _ = _
          rw [← hF.out, fewB, HL.out]
          simp [hn]
        have y2 : ¬ (k : Int) ≤ 20 := by omega
        clear hD hn
        go_wp2_with fail
        go_ret
        exact ⟨ret_bool h3.out.symm, HBf.out⟩
end Go.Proofs.Ytogfnjlhfbpneaa
