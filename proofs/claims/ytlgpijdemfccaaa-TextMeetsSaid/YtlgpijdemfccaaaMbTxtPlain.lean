/- Layer 10: names, dots and stamps of parts, whether a part is formed: the code's small functions. -/
import Derived.Test.YtlgpijdemfccaaaMbTxtMath
import Derived.Test.YtlgpijdemfccaaaMbClkGrown
import Derived.Test.YtlgpijdemfccaaaMbMul
namespace Go.Proofs.Ytlgpijdemfccaaa
set_option maxRecDepth 100000
open Go.RowKit

def N3.cells (x : N3) : List Value := [.int .i64 x.d.d, .int .i64 x.d.s, .int .i64 x.i]
abbrev N3.agg (x : N3) : Value := .agg #[.int .i64 x.d.d, .int .i64 x.d.s, .int .i64 x.i]
abbrev nameRow (x : N3) : Obj := .cells #[.int .i64 x.d.d, .int .i64 x.d.s, .int .i64 x.i] 54
abbrev stampRow (x : S3) : Obj := .cells #[.int .i64 x.t, .int .i64 x.d, .int .i64 x.q] 37

theorem nameOf_is (p : P11) (w : World) : Calls Try.prog 28 #[p.agg] w fun e w' => e = .returned (nm p).agg ∧ w' = (w.alloc (partCells p)).alloc (nameRow (nm p)) := by
  go_enter Try.func28, Try.ntmps28
  go_wp2
  refine bodyPost_ret (v := (nm p).agg) (results_cell_row rfl _ _ (w.heap.size + 1) 54 _ (0, 0) _ rfl (heap_at (by simp)) Try.underlying54 rfl (by kernel_rfl)) rfl ⟨rfl, rfl⟩
theorem nameOf_any (p : P11) (w : World) : Calls Try.prog 28 #[p.agg] w fun e w' => e = .returned (nm p).agg ∧ Grown w w' :=
  (nameOf_is p w).mono fun _ _ h => ⟨h.1, by rw [h.2]; exact ((Grown.refl w).alloc _).alloc _⟩

theorem parentOf_is (p : P11) (w : World) : Calls Try.prog 33 #[p.agg] w fun e w' => e = .returned (upN p).agg ∧ w' = (w.alloc (partCells p)).alloc (nameRow (upN p)) := by
  go_enter Try.func33, Try.ntmps33
  go_wp2
  refine bodyPost_ret (v := (upN p).agg) (results_cell_row rfl _ _ (w.heap.size + 1) 54 _ (0, 0) _ rfl (heap_at (by simp)) Try.underlying54 rfl (by kernel_rfl)) rfl ⟨rfl, rfl⟩
theorem parentOf_any (p : P11) (w : World) : Calls Try.prog 33 #[p.agg] w fun e w' => e = .returned (upN p).agg ∧ Grown w w' :=
  (parentOf_is p w).mono fun _ _ h => ⟨h.1, by rw [h.2]; exact ((Grown.refl w).alloc _).alloc _⟩

theorem stampOf_is (p : P11) (w : World) : Calls Try.prog 47 #[p.agg] w fun e w' => e = .returned (stP p).agg ∧ w' = (w.alloc (partCells p)).alloc (stampRow (stP p)) := by
  go_enter Try.func47, Try.ntmps47
  go_wp2
  refine bodyPost_ret (v := (stP p).agg) (results_cell_row rfl _ _ (w.heap.size + 1) 37 _ (0, 0) _ rfl (heap_at (by simp)) Try.underlying37 rfl (by kernel_rfl)) rfl ⟨rfl, rfl⟩
theorem stampOf_any (p : P11) (w : World) : Calls Try.prog 47 #[p.agg] w fun e w' => e = .returned (stP p).agg ∧ Grown w w' :=
  (stampOf_is p w).mono fun _ _ h => ⟨h.1, by rw [h.2]; exact ((Grown.refl w).alloc _).alloc _⟩

theorem dotOf_any (s : S3) (w : World) : Calls Try.prog 30 #[s.agg] w fun e w' => e = .returned (D2.agg ⟨s.d, s.q⟩) ∧ Grown w w' := by
  go_enter Try.func30, Try.ntmps30
  go_wp2
  refine bodyPost_ret (v := D2.agg ⟨s.d, s.q⟩) (results_cell_row rfl _ _ (w.heap.size + 1) 40 _ (0, 0) _ rfl (heap_at (by simp)) Try.underlying40 rfl (by kernel_rfl)) rfl ⟨rfl, ((Grown.refl w).alloc _).alloc _⟩

/-- may there be a transaction of that stamp -/
def rightSt (s : S3) : Bool := decide (1 ≤ s.t ∧ s.t ≤ 1125899906842624) && (decide (1 ≤ s.d ∧ s.d ≤ 64) && decide (1 ≤ s.q ∧ s.q ≤ 1048576))
theorem rightSt_iff (s : S3) : rightSt s = true ↔ (1 ≤ s.t ∧ s.t ≤ 1125899906842624) ∧ (1 ≤ s.d ∧ s.d ≤ 64) ∧ 1 ≤ s.q ∧ s.q ≤ 1048576 := by
  simp only [rightSt, Bool.and_eq_true, decide_eq_true_iff]

set_option maxHeartbeats 800000 in
theorem rightStamp_any (s : S3) (w : World) : Calls Try.prog 44 #[s.agg] w fun e w' => e = .returned (.bool (rightSt s)) ∧ Grown w w' := by
  obtain ⟨t, d, q⟩ := s
  go_enter Try.func44, Try.ntmps44
  go_wp2
  all_goals go_ret
  all_goals refine ⟨?_, (Grown.refl w).alloc _⟩
  all_goals refine ret_bool ?_
  all_goals
    rw [Bool.eq_iff_iff, rightSt_iff]
    simp
    try omega
end Go.Proofs.Ytlgpijdemfccaaa

