/- Layer 12: nothing, a number, truth: the smallest functions. -/
import Derived.Test.YtkpkkkmokgmhfaaExpMem
import Derived.Test.YtkpkkkmokgmhfaaTail
import Derived.Deep.CutBlock
import Derived.Deep.DeepCutAuto
import Derived.Outline
namespace Go.Proofs.Ytkpkkkmokgmhfaa
set_option maxRecDepth 100000
open Go.RowKit Go.MapKept

theorem beq_no {a b : Int} (h : ¬ a = b) : (a == b) = false := by simpa using h
theorem beq_yes {a b : Int} (h : a = b) : (a == b) = true := by simpa using h
theorem below_setN {B : Nat} {a w : World} {g : Nat} (h : Below B a w) (hg : B ≤ g) (x y z : Value) : Below B a (((w.setCell ⟨g, 0, none⟩ x).setCell ⟨g, 1, none⟩ y).setCell ⟨g, 2, none⟩ z) := below_set3 h hg

set_option maxHeartbeats 1600000 in
theorem nothing_any (w : World) : Calls Try.prog 28 #[] w fun e w' => e = .returned v0.agg ∧ Below w.heap.size w w' := by
  obtain ⟨w1, hw1⟩ : ∃ w1, w1 = w.alloc (valBox v0) := ⟨_, rfl⟩
  have HW := Lib.hid hw1
  have R1 : Hid (w1.heap[w.heap.size]? = some (valBox v0)) := by rw [hw1]; exact heap_alloc_new _ _
  have HB : Hid (Below w.heap.size w w1) := by rw [hw1]; exact below_new (Below.refl _ _) _
  obtain ⟨c0, c1, c2⟩ := valB_row R1.out
  have f0 := frozen_row R1.out
  clear hw1
  go_enter Try.func28, Try.ntmps28
  go_upto_region 1 with fail
  rw [show w.alloc (valBox v0) = w1 from HW.out.symm]
  clear HW
  go_wp2
  refine bodyPost_ret (v := v0.agg) (results_cell_row rfl _ _ w.heap.size 23 _ (0, 0) _ rfl (set3 R1.out) Try.underlying23 rfl (by kernel_rfl)) rfl ?_
  exact ⟨rfl, below_set3 HB.out (Nat.le_refl _)⟩

set_option maxHeartbeats 1600000 in
theorem number_any (n : Int) (w : World) : Calls Try.prog 64 #[.int .i64 n] w fun e w' => e = .returned (numV n).agg ∧ Below w.heap.size w w' := by
  obtain ⟨w1, hw1⟩ : ∃ w1, w1 = w.alloc (valBox v0) := ⟨_, rfl⟩
  have HW := Lib.hid hw1
  have R1 : Hid (w1.heap[w.heap.size]? = some (valBox v0)) := by rw [hw1]; exact heap_alloc_new _ _
  have HB : Hid (Below w.heap.size w w1) := by rw [hw1]; exact below_new (Below.refl _ _) _
  obtain ⟨c0, c1, c2⟩ := valB_row R1.out
  have f0 := frozen_row R1.out
  clear hw1
  go_enter Try.func64, Try.ntmps64
  go_upto_region 1 with fail
  rw [show w.alloc (valBox v0) = w1 from HW.out.symm]
  clear HW
  go_wp2
  refine bodyPost_ret (v := (numV n).agg) (results_cell_row rfl _ _ w.heap.size 23 _ (0, 0) _ rfl (set3 R1.out) Try.underlying23 rfl (by kernel_rfl)) rfl ?_
  exact ⟨rfl, below_set3 HB.out (Nat.le_refl _)⟩
end Go.Proofs.Ytkpkkkmokgmhfaa
