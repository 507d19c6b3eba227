/- Layer 11: Foreign, the code's and the document's. Written by schfk.py. -/
import Derived.Test.YtogfnjlhfbpneaaSchRefN
namespace Go.Proofs.Ytogfnjlhfbpneaa
set_option maxRecDepth 100000
open Go.RowKit

abbrev zeroFk : Obj := .cells #[.int .i64 0, .int .i64 0, .int .i64 0] 42
theorem zero_row {w : World} {g : Nat} (h : w.heap[g]? = some zeroFk) : w.cell? ⟨g, 0, none⟩ = some (.int .i64 0) ∧ w.cell? ⟨g, 1, none⟩ = some (.int .i64 0) ∧ w.cell? ⟨g, 2, none⟩ = some (.int .i64 0) := ⟨cell_row h 0, cell_row h 1, cell_row h 2⟩
theorem f3At_hit {l : List F3} {k : Nat} {x : F3} (h : l[k]? = some x) : f3At l (some k) = x := by
  simp [f3At, List.getD, h]

set_option maxHeartbeats 3200000 in
theorem foreign_any (t : T6) (col : Int) (w : World) (h : RdF w t.fa t.nf t.fc t.fks) :
    Calls Try.prog 20 #[t.agg, .int .i64 col] w fun e w' => e = .returned (.tuple #[(f3At t.fks (foreignP t.fks col)).agg, .bool (foreignP t.fks col).isSome]) ∧ Below w.heap.size w w' := by
  have hle := h.le
  have HL := Lib.hid h.len
  obtain ⟨w1, hw1⟩ : ∃ w1, w1 = (w.alloc (tabBox t)).alloc zeroFk := ⟨_, rfl⟩
  have HW1 := Lib.hid hw1
  have HB1 : Hid (Below w.heap.size w w1) := by rw [hw1]; exact below_new (below_new (Below.refl _ _) _) _
  have r0 : w1.heap[w.heap.size]? = some (tabBox t) := by rw [hw1, Below.heap_alloc _ _ _ (by simp)]; exact heap_alloc_new _ _
  have R1 : Hid (w1.heap[w.heap.size + 1]? = some zeroFk) := by
    show _ = _
    rw [hw1]
    have := heap_alloc_new (w.alloc (tabBox t)) zeroFk
    rwa [World.size_alloc] at this
  have HR := Lib.hid (h.below HB1.out)
  obtain ⟨l, hl⟩ : ∃ l, t.fks = l := ⟨_, rfl⟩
  obtain ⟨o, ho⟩ : ∃ o, Hid (findP (fun f : F3 => decide (f.a = col)) l = o) := ⟨_, rfl⟩
  rw [hl] at HR HL
  rw [hl, show foreignP l col = o from ho.out]
  obtain ⟨FA, hFA⟩ : ∃ FA, Hid (f3At l o = FA) := ⟨_, rfl⟩
  rw [hFA.out]
  obtain ⟨c0, c1, c2, c3, c4, c5⟩ := tab_row r0
  have hgw : Hid (w.heap.size ≤ w.heap.size + 1) := Nat.le_succ _
  clear hw1 h hl
  go_enter Try.func20, Try.ntmps20
  go_upto_region 1 with fail
  rw [show (w.alloc (tabBox t)).alloc zeroFk = w1 from HW1.out.symm]
  clear HW1 r0 c0 c1 c2 c3 c5
  go_wp2_with fail
  clear c4
  go_loopw [11] (fun i wr => ∃ k : Nat, k ≤ t.nf ∧ i = .int .i64 k ∧ Hid (∀ j y, j < k → l[j]? = some y → decide (y.a = col) = false) ∧ Hid (Below w1.heap.size w1 wr)) (fun i _ => t.nf - (intOf i).toNat)
  case atStart => exact ⟨0, Nat.zero_le _, rfl, by show ∀ j y, _; intro j y h; exact absurd h (by omega), Below.refl _ _⟩
  case round =>
    obtain ⟨k, hk, rfl, hA, KB⟩ := hrel
    have HB := Lib.hid (below_then HB1.out KB.out)
    have R2 := Lib.hid (row_below R1.out KB.out)
    by_cases hlt : k < t.nf
    · obtain ⟨b, o', x, e0, hb, hx, hld⟩ := HR.out.f3 hlt
      obtain ⟨d0, d1, d2⟩ := hld wr KB.out
      have HKS := Lib.hid KB.out.size
      rw [e0]
      have y1 : (k : Int) < (t.nf : Int) := by omega
      have y0 : (0 : Int) ≤ (k : Int) := by omega
      obtain ⟨q, hq⟩ : ∃ q, Hid (decide (x.a = col) = q) := ⟨_, rfl⟩
      have hq2 : (x.a == col) = q := by rw [← hq.out]; by_cases h : x.a = col <;> simp [h]
      have HX := Lib.hid hx
      obtain ⟨w2, hw2⟩ : ∃ w2, w2 = wr.alloc (fkBox x) := ⟨_, rfl⟩
      have HW2 := Lib.hid hw2
      have HB2 : Hid (Below w.heap.size w w2) := by rw [hw2]; exact below_new HB.out _
      have KB2 : Hid (Below w1.heap.size w1 w2) := by rw [hw2]; exact below_new KB.out _
      have R3 : Hid (w2.heap[w.heap.size + 1]? = some zeroFk) := by rw [hw2]; exact row_below R2.out (below_new (Below.refl _ _) _)
      have r3 : w2.heap[wr.heap.size]? = some (fkBox x) := by rw [hw2]; exact heap_alloc_new _ _
      obtain ⟨f0, f1, f2⟩ := f3_row r3
      clear e0 hld hx hb hw2 r3 R2 HB
      go_upto_region 4 with fail
      rw [show wr.alloc (fkBox x) = w2 from HW2.out.symm]
      clear HW2 d0 d1 d2
      cases q with
      | true =>
        have h3 : Hid (o = some k) := by show _ = _; rw [← ho.out]; exact findP_hit HX.out hq.out hA.out
        have h4 : Hid (FA = x) := by show _ = _; rw [← hFA.out, h3.out]; exact f3At_hit HX.out
        have fz := frozen_row R3.out
        obtain ⟨g0, g1, g2⟩ := zero_row R3.out
        go_wp2_with fail
        (try simp only [Exit.inBlock, Exit.then])
        refine bodyPost_ret (v := .tuple #[x.agg, .bool true]) (results_row_tmp rfl _ _ (w.heap.size + 1) 42 _ (0, 0) _ rfl (set3 R3.out) Try.underlying42 rfl (by kernel_rfl) rfl) rfl ?_
        exact ⟨by rw [h3.out, h4.out]; rfl, below_set3 HB2.out hgw.out⟩
      | false =>
        have h3 : Hid (∀ j y, j < k + 1 → l[j]? = some y → decide (y.a = col) = false) := by show ∀ j y, _; exact ahead_next (p := fun f : F3 => decide (f.a = col)) HX.out hq.out hA.out
        go_wp2_with fail
        exact ⟨⟨k + 1, by omega, by go_num, h3, KB2⟩, by simp [intOf]; omega⟩
    · obtain rfl : k = t.nf := by omega
      have h3 : Hid (o = none) := by show _ = _; rw [← ho.out]; exact findP_miss (Nat.le_of_eq HL.out) hA.out
      have h4 : Hid (FA = f30) := by show _ = _; rw [← hFA.out, h3.out]; rfl
      have y1 : ¬ (t.nf : Int) < (t.nf : Int) := by omega
      have fz := frozen_row R2.out
      obtain ⟨g0, g1, g2⟩ := zero_row R2.out
      go_wp2_with fail
      (try simp only [Exit.inBlock, Exit.then])
      refine bodyPost_ret (v := .tuple #[.agg #[.int .i64 0, .int .i64 0, .int .i64 0], .bool false]) (results_row_tmp rfl _ _ (w.heap.size + 1) 42 _ (0, 0) _ rfl (set3 R2.out) Try.underlying42 rfl (by kernel_rfl) rfl) rfl ?_
      exact ⟨by rw [h3.out, h4.out]; rfl, below_set3 HB.out hgw.out⟩

set_option maxHeartbeats 3200000 in
theorem refForeign_any (t : T6) (col : Int) (w : World) (h : RdF w t.fa t.nf t.fc t.fks) :
    Calls Try.prog 21 #[t.agg, .int .i64 col] w fun e w' => e = .returned (.tuple #[(f3At t.fks (foreignP t.fks col)).agg, .bool (foreignP t.fks col).isSome]) ∧ Below w.heap.size w w' := by
  have hle := h.le
  have HL := Lib.hid h.len
  obtain ⟨w1, hw1⟩ : ∃ w1, w1 = (w.alloc (tabBox t)).alloc zeroFk := ⟨_, rfl⟩
  have HW1 := Lib.hid hw1
  have HB1 : Hid (Below w.heap.size w w1) := by rw [hw1]; exact below_new (below_new (Below.refl _ _) _) _
  have r0 : w1.heap[w.heap.size]? = some (tabBox t) := by rw [hw1, Below.heap_alloc _ _ _ (by simp)]; exact heap_alloc_new _ _
  have R1 : Hid (w1.heap[w.heap.size + 1]? = some zeroFk) := by
    show _ = _
    rw [hw1]
    have := heap_alloc_new (w.alloc (tabBox t)) zeroFk
    rwa [World.size_alloc] at this
  have HR := Lib.hid (h.below HB1.out)
  obtain ⟨l, hl⟩ : ∃ l, t.fks = l := ⟨_, rfl⟩
  obtain ⟨o, ho⟩ : ∃ o, Hid (findP (fun f : F3 => decide (f.a = col)) l = o) := ⟨_, rfl⟩
  rw [hl] at HR HL
  rw [hl, show foreignP l col = o from ho.out]
  obtain ⟨FA, hFA⟩ : ∃ FA, Hid (f3At l o = FA) := ⟨_, rfl⟩
  rw [hFA.out]
  obtain ⟨c0, c1, c2, c3, c4, c5⟩ := tab_row r0
  have hgw : Hid (w.heap.size ≤ w.heap.size + 1) := Nat.le_succ _
  clear hw1 h hl
  go_enter Try.func21, Try.ntmps21
  go_upto_region 1 with fail
  rw [show (w.alloc (tabBox t)).alloc zeroFk = w1 from HW1.out.symm]
  clear HW1 r0 c0 c1 c2 c3 c5
  go_wp2_with fail
  go_loopw [6] (fun i wr => ∃ k : Nat, k ≤ t.nf ∧ i = .int .i64 k ∧ Hid (∀ j y, j < k → l[j]? = some y → decide (y.a = col) = false) ∧ wr = w1) (fun i _ => t.nf - (intOf i).toNat)
  case atStart => exact ⟨0, Nat.zero_le _, rfl, by show ∀ j y, _; intro j y h; exact absurd h (by omega), rfl⟩
  case round =>
    obtain ⟨k, hk, rfl, hA, rfl⟩ := hrel
    by_cases hlt : k < t.nf
    · obtain ⟨b, o', x, e0, hb, hx, hld⟩ := HR.out.f3 hlt
      obtain ⟨d0, d1, d2⟩ := hld wr (Below.refl _ _)
      rw [e0] at c4
      have y1 : (k : Int) < (t.nf : Int) := by omega
      have y0 : (0 : Int) ≤ (k : Int) := by omega
      obtain ⟨q, hq⟩ : ∃ q, Hid (decide (x.a = col) = q) := ⟨_, rfl⟩
      have hq2 : (x.a == col) = q := by rw [← hq.out]; by_cases h : x.a = col <;> simp [h]
      have HX := Lib.hid hx
      clear e0 hld hx hb
      cases q with
      | true =>
        have h3 : Hid (o = some k) := by show _ = _; rw [← ho.out]; exact findP_hit HX.out hq.out hA.out
        have h4 : Hid (FA = x) := by show _ = _; rw [← hFA.out, h3.out]; exact f3At_hit HX.out
        have fz := frozen_row R1.out
        obtain ⟨g0, g1, g2⟩ := zero_row R1.out
        go_wp2_with fail
        (try simp only [Exit.inBlock, Exit.then])
        refine bodyPost_ret (v := .tuple #[x.agg, .bool true]) (results_row_tmp rfl _ _ (w.heap.size + 1) 42 _ (0, 0) _ rfl (set3 R1.out) Try.underlying42 rfl (by kernel_rfl) rfl) rfl ?_
        exact ⟨by rw [h3.out, h4.out]; rfl, below_set3 HB1.out hgw.out⟩
      | false =>
        have h3 : Hid (∀ j y, j < k + 1 → l[j]? = some y → decide (y.a = col) = false) := by show ∀ j y, _; exact ahead_next (p := fun f : F3 => decide (f.a = col)) HX.out hq.out hA.out
        go_wp2_with fail
        exact ⟨⟨k + 1, by omega, by go_num, h3, trivial⟩, by simp [intOf]; omega⟩
    · obtain rfl : k = t.nf := by omega
      have h3 : Hid (o = none) := by show _ = _; rw [← ho.out]; exact findP_miss (Nat.le_of_eq HL.out) hA.out
      have h4 : Hid (FA = f30) := by show _ = _; rw [← hFA.out, h3.out]; rfl
      have y1 : ¬ (t.nf : Int) < (t.nf : Int) := by omega
      have fz := frozen_row R1.out
      obtain ⟨g0, g1, g2⟩ := zero_row R1.out
      go_wp2_with fail
      (try simp only [Exit.inBlock, Exit.then])
      refine bodyPost_ret (v := .tuple #[.agg #[.int .i64 0, .int .i64 0, .int .i64 0], .bool false]) (results_row_tmp rfl _ _ (w.heap.size + 1) 42 _ (0, 0) _ rfl (set3 R1.out) Try.underlying42 rfl (by kernel_rfl) rfl) rfl ?_
      exact ⟨by rw [h3.out, h4.out]; rfl, below_set3 HB1.out hgw.out⟩
end Go.Proofs.Ytogfnjlhfbpneaa
