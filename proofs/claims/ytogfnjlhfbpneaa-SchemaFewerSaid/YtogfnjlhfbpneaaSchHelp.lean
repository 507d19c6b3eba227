/- Layer 11: what Right's questions lean on: kinds, acts, registers, columns that can be bound. -/
import Derived.Test.YtogfnjlhfbpneaaSchFew
namespace Go.Proofs.Ytogfnjlhfbpneaa
set_option maxRecDepth 100000
open Go.RowKit

theorem beq_no {a b : Int} (h : ¬ a = b) : (a == b) = false := by simpa using h
theorem beq_yes {a b : Int} (h : a = b) : (a == b) = true := by simpa using h

set_option maxHeartbeats 1600000 in
theorem knownKind_any (k : Int) (w : World) : Calls Try.prog 49 #[.int .i64 k] w fun e w' => e = .returned (.bool (kindB k)) ∧ Below w.heap.size w w' := by
  have hb := Lib.hid (Below.refl w.heap.size w)
  obtain ⟨r, hr⟩ : ∃ r, Hid (kindB k = r) := ⟨_, rfl⟩
  rw [hr.out]
  go_enter Try.func49, Try.ntmps49
  rcases Decidable.em (k = 0) with rfl | h0
  · have h3 : Hid (r = true) := hr.out.symm
    go_wp2
    go_ret
    exact ⟨ret_bool h3.out.symm, hb.out⟩
  rcases Decidable.em (k = 1) with rfl | h1
  · have h3 : Hid (r = true) := hr.out.symm
    go_wp2
    go_ret
    exact ⟨ret_bool h3.out.symm, hb.out⟩
  rcases Decidable.em (k = 2) with rfl | h2
  · have h3 : Hid (r = true) := hr.out.symm
    go_wp2
    go_ret
    exact ⟨ret_bool h3.out.symm, hb.out⟩
  rcases Decidable.em (k = 3) with rfl | h4
  · have h3 : Hid (r = true) := hr.out.symm
    go_wp2
    go_ret
    exact ⟨ret_bool h3.out.symm, hb.out⟩
  rcases Decidable.em (k = 4) with rfl | h5
  · have h3 : Hid (r = true) := hr.out.symm
    go_wp2
    go_ret
    exact ⟨ret_bool h3.out.symm, hb.out⟩
  have h3 : Hid (r = false) := by show _ = _; rw [← hr.out]; simp [kindB]; omega
  have e0 := beq_no h0; have e1 := beq_no h1; have e2 := beq_no h2; have e3 := beq_no h4; have e4 := beq_no h5
  go_wp2
  go_ret
  exact ⟨ret_bool h3.out.symm, hb.out⟩

set_option maxHeartbeats 1600000 in
theorem knownAct_any (k : Int) (w : World) : Calls Try.prog 53 #[.int .i64 k] w fun e w' => e = .returned (.bool (actB k)) ∧ Below w.heap.size w w' := by
  have hb := Lib.hid (Below.refl w.heap.size w)
  obtain ⟨r, hr⟩ : ∃ r, Hid (actB k = r) := ⟨_, rfl⟩
  rw [hr.out]
  go_enter Try.func53, Try.ntmps53
  rcases Decidable.em (k = 0) with rfl | h0
  · have h3 : Hid (r = true) := hr.out.symm
    go_wp2
    go_ret
    exact ⟨ret_bool h3.out.symm, hb.out⟩
  rcases Decidable.em (k = 1) with rfl | h1
  · have h3 : Hid (r = true) := hr.out.symm
    go_wp2
    go_ret
    exact ⟨ret_bool h3.out.symm, hb.out⟩
  rcases Decidable.em (k = 2) with rfl | h2
  · have h3 : Hid (r = true) := hr.out.symm
    go_wp2
    go_ret
    exact ⟨ret_bool h3.out.symm, hb.out⟩
  have h3 : Hid (r = false) := by show _ = _; rw [← hr.out]; simp [actB, h0, h1, h2]
  have e0 := beq_no h0; have e1 := beq_no h1; have e2 := beq_no h2
  go_wp2
  go_ret
  exact ⟨ret_bool h3.out.symm, hb.out⟩

set_option maxHeartbeats 1600000 in
theorem mayHave_any (k t : Int) (w : World) : Calls Try.prog 50 #[.int .i64 k, .int .i64 t] w fun e w' => e = .returned (.bool (mayB k t)) ∧ Below w.heap.size w w' := by
  have hb := Lib.hid (Below.refl w.heap.size w)
  obtain ⟨r, hr⟩ : ∃ r, Hid (mayB k t = r) := ⟨_, rfl⟩
  rw [hr.out]
  go_enter Try.func50, Try.ntmps50
  rcases Decidable.em (t = 1) with rfl | h1
  · rcases Decidable.em (k = 4) with rfl | h4
    · have h3 : Hid (r = false) := hr.out.symm
      go_wp2
      go_ret
      exact ⟨ret_bool h3.out.symm, hb.out⟩
    · have h3 : Hid (r = true) := by show _ = _; rw [← hr.out]; simp [mayB, h4]
      have e4 := beq_no h4
      go_wp2
      go_ret
      exact ⟨ret_bool (by rw [h3.out]; simp [h4]), hb.out⟩
  rcases Decidable.em (t = 2) with rfl | h2
  · rcases Decidable.em (k = 2) with rfl | h4
    · have h3 : Hid (r = false) := hr.out.symm
      go_wp2
      go_ret
      exact ⟨ret_bool h3.out.symm, hb.out⟩
    rcases Decidable.em (k = 3) with rfl | h5
    · have h3 : Hid (r = false) := hr.out.symm
      go_wp2
      go_ret
      exact ⟨ret_bool h3.out.symm, hb.out⟩
    · have h3 : Hid (r = true) := by show _ = _; rw [← hr.out]; simp [mayB, h4, h5]
      have e4 := beq_no h4; have e5 := beq_no h5
      go_wp2
      go_ret
      exact ⟨ret_bool (by rw [h3.out]; simp [h4, h5]), hb.out⟩
  have h3 : Hid (r = false) := by show _ = _; rw [← hr.out]; simp [mayB, h1, h2]
  have e1 := beq_no h1; have e2 := beq_no h2
  go_wp2
  go_ret
  exact ⟨ret_bool h3.out.symm, hb.out⟩

set_option maxHeartbeats 1600000 in
theorem register_any (c : C4) (w : World) : Calls Try.prog 51 #[c.agg] w fun e w' => e = .returned (.bool (regB c)) ∧ Below w.heap.size w w' := by
  have HB := Lib.hid (below_new (Below.refl w.heap.size w) (colBox c))
  obtain ⟨c0, c1, c2, c3⟩ := col_row (heap_alloc_new w (colBox c))
  obtain ⟨q, hq⟩ : ∃ q, (c.k == 0) = q := ⟨_, rfl⟩
  obtain ⟨r, hr⟩ : ∃ r, (c.t == 1) = r := ⟨_, rfl⟩
  have h3 : Hid (regB c = (q && r)) := by show _ = _; rw [regB, hq, hr]
  rw [h3.out]
  go_enter Try.func51, Try.ntmps51
  cases q with
  | true =>
    rw [Bool.true_and]
    go_wp2
    go_ret
    exact ⟨rfl, HB.out⟩
  | false =>
    rw [Bool.false_and]
    go_wp2
    go_ret
    exact ⟨rfl, HB.out⟩

set_option maxHeartbeats 1600000 in
theorem bindable_any (t : T6) (col : Int) (w : World) : Calls Try.prog 52 #[t.agg, .int .i64 col] w fun e w' => e = .returned (.bool (bindB t.nc col)) ∧ Below w.heap.size w w' := by
  have HB := Lib.hid (below_new (Below.refl w.heap.size w) (tabBox t))
  obtain ⟨c0, c1, c2, c3, c4, c5⟩ := tab_row (heap_alloc_new w (tabBox t))
  obtain ⟨r, hr⟩ : ∃ r, Hid (bindB t.nc col = r) := ⟨_, rfl⟩
  rw [hr.out]
  go_enter Try.func52, Try.ntmps52
  by_cases h1 : 0 < col
  · by_cases h2 : col < (t.nc : Int)
    · have h3 : Hid (r = true) := by show _ = _; rw [← hr.out]; simp [bindB, h1, h2]
      go_wp2
      go_ret
      exact ⟨ret_bool h3.out.symm, HB.out⟩
    · have h3 : Hid (r = false) := by show _ = _; rw [← hr.out]; simp [bindB, h1, h2]
      go_wp2
      go_ret
      exact ⟨ret_bool h3.out.symm, HB.out⟩
  · have h3 : Hid (r = false) := by show _ = _; rw [← hr.out]; simp [bindB, h1]
    go_wp2
    go_ret
    exact ⟨ret_bool h3.out.symm, HB.out⟩
end Go.Proofs.Ytogfnjlhfbpneaa
