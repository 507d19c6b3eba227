/- slices.insertionSortCmpFunc at numbers: a part of what is sorted is sorted by insertion. -/
import Derived.Test.YtieaobeidlhefaaSortMem
import Derived.Deep.RegionHeld3
import Derived.Deep.QuietTactic
import Derived.BigRegion
import Derived.IntWalk
import Derived.Shelf.Abstract
namespace Go.Proofs.Ytieaobeidlhefaa
set_option maxRecDepth 100000
open Go.RowKit Srt
variable {α : Type}

theorem sorted_upto {lt : α → α → Bool} (hw : Weak lt) {A : List α} {y x : α} (hs : Sorted lt (A ++ [y])) (h : lt x y = false) : ∀ u ∈ A ++ [y], lt x u = false := by
  intro u hu
  rcases List.mem_append.1 hu with hu | hu
  · exact hw.neg _ _ _ h ((List.pairwise_append.1 hs).2.2 u hu y (by simp))
  · simp at hu; subst hu; exact h

theorem list_last {A : List α} {m : Nat} (h : A.length = m + 1) : ∃ B y, A = B ++ [y] ∧ B.length = m := by
  refine ⟨A.dropLast, A.getLast (by intro e; rw [e] at h; simp at h), (List.dropLast_concat_getLast _).symm, by simp [h]⟩

theorem at_mid (P Q : List α) (x : α) {j : Nat} (h : P.length = j) : (P ++ x :: Q)[j]? = some x := by subst h; simp

end Go.Proofs.Ytieaobeidlhefaa
