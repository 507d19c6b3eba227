/- Layer 2: which values may be, which is ahead, which are one: the code and the document's answer. -/
import Derived.Test.YtieaobeidlhefaaRows
import Derived.Test.YtieaobeidlhefaaMem
import Derived.Test.YtieaobeidlhefaaValMath
import Derived.Sort.Walk0
import Derived.BigQuiet
import Derived.Deep.RegionWith
import Derived.Outline
import Derived.Deep.DeepCutAuto
import Derived.Deep.CutBlock
namespace Go.Proofs.Ytieaobeidlhefaa
set_option maxRecDepth 100000
open Go.RowKit

abbrev valCells (k n : Int) (s : ByteArray) : Obj := .cells #[.int .i64 k, .int .i64 n, .string s] 23

theorem iem (s : ByteArray) : s.toList.isEmpty = (s.size == 0) := by
  rw [Lib.toList_data]
  cases s with
  | mk a => cases a with | mk l => cases l <;> simp [ByteArray.size]

theorem size_zero {s : ByteArray} (h : s.size = 0) : s = ByteArray.empty := by
  cases s with
  | mk a => cases a with | mk l => cases l with
    | nil => rfl
    | cons x r => simp [ByteArray.size] at h

set_option maxHeartbeats 800000 in
theorem right_any (k n : Int) (s : ByteArray) (w : World) (hs : s.size ≤ 4294967296) :
    Calls Try.prog 78 #[.agg #[.int .i64 k, .int .i64 n, .string s]] w fun e w' => e = .returned (.bool (rightZ k n s.size)) ∧ Below w.heap.size w w' := by
  go_enter Try.func78, Try.ntmps78
  go_wp2
  all_goals go_ret
  all_goals refine ⟨?_, by first | exact (Below.refl _ _).alloc (Nat.le_refl _) _ | exact below_drewN ((Below.refl _ _).alloc (Nat.le_refl _) _) _⟩
  all_goals try simp only [iem]
  all_goals rcases Decidable.em (-1099511627776 ≤ n) with hlo | hlo <;> rcases Decidable.em (n ≤ 1099511627776) with hhi | hhi
  all_goals
    by_cases hz : s = ByteArray.empty
    · subst hz
      simp_all [rightZ]
      try omega
    · have hz1 : (s.size == 0) = false := by simpa using fun h => hz (size_zero h)
      have hz4 : ¬ s.toList = [] := fun h => hz (size_zero (by have := iem s; rw [h] at this; simpa using this.symm))
      have hz3 : ¬ s.size = 0 := fun h => hz (size_zero h)
      simp_all [rightZ]
      try omega

set_option maxHeartbeats 800000 in
theorem refRight_any (k n : Int) (s : ByteArray) (w : World) (hs : s.size ≤ 4294967296) :
    Calls Try.prog 24 #[.agg #[.int .i64 k, .int .i64 n, .string s]] w fun e w' => e = .returned (.bool (rightZ k n s.size)) ∧ Below w.heap.size w w' := by
  go_enter Try.func24, Try.ntmps24
  go_wp2
  all_goals go_ret
  all_goals refine ⟨?_, by first | exact (Below.refl _ _).alloc (Nat.le_refl _) _ | exact below_drewN ((Below.refl _ _).alloc (Nat.le_refl _) _) _⟩
  all_goals try simp only [iem]
  all_goals rcases Decidable.em (-1099511627776 ≤ n) with hlo | hlo <;> rcases Decidable.em (n ≤ 1099511627776) with hhi | hhi
  all_goals
    by_cases hz : s = ByteArray.empty
    · subst hz
      simp_all [rightZ]
      try omega
    · have hz1 : (s.size == 0) = false := by simpa using fun h => hz (size_zero h)
      have hz4 : ¬ s.toList = [] := fun h => hz (size_zero (by have := iem s; rw [h] at this; simpa using this.symm))
      have hz3 : ¬ s.size = 0 := fun h => hz (size_zero h)
      simp_all [rightZ]
      try omega

/-- is a ahead of b -/
def lessZ (k n : Int) (s : ByteArray) (k' n' : Int) (s' : ByteArray) : Bool :=
  decide (k < k') || (decide (k = k') && decide (n < n')) || (decide (k = k') && decide (n = n') && decide (s.data.toList < s'.data.toList))

theorem strLess (s t : ByteArray) : Op.bytesLess s.toList t.toList = decide (s.data.toList < t.data.toList) := by
  rw [bytesLess_eq, Lib.toList_data, Lib.toList_data]

set_option maxHeartbeats 800000 in
theorem less_any (k n k' n' : Int) (s s' : ByteArray) (w : World) :
    Calls Try.prog 69 #[.agg #[.int .i64 k, .int .i64 n, .string s], .agg #[.int .i64 k', .int .i64 n', .string s']] w fun e w' => e = .returned (.bool (lessZ k n s k' n' s')) ∧ Below w.heap.size w w' := by
  rcases Decidable.em (k = k') with rfl | hk <;> rcases Decidable.em (n = n') with rfl | hn
  all_goals
    go_enter Try.func69, Try.ntmps69
    go_wp2
  all_goals go_ret
  all_goals refine ⟨?_, by first | exact ((Below.refl _ _).alloc (Nat.le_refl _) _).alloc (by simp) _⟩
  all_goals simp_all [lessZ, strLess]
  all_goals try omega

set_option maxHeartbeats 800000 in
theorem refLess_any (k n k' n' : Int) (s s' : ByteArray) (w : World) :
    Calls Try.prog 34 #[.agg #[.int .i64 k, .int .i64 n, .string s], .agg #[.int .i64 k', .int .i64 n', .string s']] w fun e w' => e = .returned (.bool (lessZ k n s k' n' s')) ∧ Below w.heap.size w w' := by
  rcases Decidable.em (k = k') with rfl | hk <;> rcases Decidable.em (n = n') with rfl | hn
  all_goals
    go_enter Try.func34, Try.ntmps34
    go_wp2
  all_goals go_ret
  all_goals refine ⟨?_, by first | exact ((Below.refl _ _).alloc (Nat.le_refl _) _).alloc (by simp) _⟩
  all_goals simp_all [lessZ, strLess]
  all_goals try omega

/-- are both one -/
def sameZ (k n : Int) (s : ByteArray) (k' n' : Int) (s' : ByteArray) : Bool := decide (k = k') && decide (n = n') && decide (s = s')

set_option maxHeartbeats 800000 in
theorem valSame_any (k n k' n' : Int) (s s' : ByteArray) (w : World) :
    Calls Try.prog 73 #[.agg #[.int .i64 k, .int .i64 n, .string s], .agg #[.int .i64 k', .int .i64 n', .string s']] w fun e w' => e = .returned (.bool (sameZ k n s k' n' s')) ∧ Below w.heap.size w w' := by
  rcases Decidable.em (k = k') with rfl | hk <;> rcases Decidable.em (n = n') with rfl | hn <;> rcases Decidable.em (s = s') with rfl | hs
  all_goals go_enter Try.func73, Try.ntmps73
  all_goals go_wp2
  all_goals go_ret
  all_goals refine ⟨?_, by first | exact ((Below.refl _ _).alloc (Nat.le_refl _) _).alloc (by simp) _⟩
  all_goals try have hs2 : ¬ s.data = s'.data := fun h => hs (by cases s; cases s'; simp_all)
  all_goals try have hs3 : ¬ s.toList = s'.toList := fun h => hs (by rw [Lib.toList_data, Lib.toList_data] at h; cases s with | mk a => cases s' with | mk b => cases a; cases b; simp_all)
  all_goals simp_all [sameZ]

end Go.Proofs.Ytieaobeidlhefaa
