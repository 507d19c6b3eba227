/- slices.symMergeCmpFunc at numbers: two sorted parts, one behind the other, are merged; what is alike stays as it stood. -/
import Derived.Test.YtieaobeidlhefaaSortSym2
import Derived.Deep.DeepCutAuto
import Derived.Deep.CutBlock
namespace Go.Proofs.Ytieaobeidlhefaa
set_option maxRecDepth 100000
open Go.RowKit Srt
variable {α : Type}

theorem cut_merge {lt : α → α → Bool} (hw : Weak lt) {U V : List α} (hu : Sorted lt U) (hv : Sorted lt V) {i j : Nat}
    (h1 : 0 < i → i ≤ U.length → j < V.length → ∀ x y, U[i - 1]? = some x → V[j]? = some y → lt y x = false) (h2 : i < U.length → 0 < j → j ≤ V.length → ∀ x y, U[i]? = some x → V[j - 1]? = some y → lt y x = true) (hi : i ≤ U.length) (hj : j ≤ V.length) :
    merge lt U V = merge lt (U.take i) (V.take j) ++ merge lt (U.drop i) (V.drop j) := by
  conv => lhs; rw [← List.take_append_drop i U, ← List.take_append_drop j V]
  refine merge_split _ _ _ _ ?_ ?_
  · intro u hu1 v hv1
    have i0 : 0 < i := by
      rcases Nat.eq_zero_or_pos i with h | h
      · subst h; simp at hu1
      · exact h
    have j0 : j < V.length := by
      rcases Nat.lt_or_ge j V.length with h | h
      · exact h
      · rw [List.drop_of_length_le h] at hv1; simp at hv1
    have ex := List.getElem?_eq_getElem (l := U) (i := i - 1) (by omega)
    have ey := List.getElem?_eq_getElem (l := V) j0
    have a1 := h1 i0 hi j0 _ _ ex ey
    have a2 := none_upto hw hu ex (hw.irr _) u (by rw [show i - 1 + 1 = i by omega]; exact hu1)
    have a3 := none_behind hw hv ey (hw.irr _) v hv1
    exact hw.neg _ _ _ (hw.neg _ _ _ a3 a1) a2
  · intro v hv1 u hu1
    have j0 : 0 < j := by
      rcases Nat.eq_zero_or_pos j with h | h
      · subst h; simp at hv1
      · exact h
    have i0 : i < U.length := by
      rcases Nat.lt_or_ge i U.length with h | h
      · exact h
      · rw [List.drop_of_length_le h] at hu1; simp at hu1
    have ex := List.getElem?_eq_getElem (l := U) i0
    have ey := List.getElem?_eq_getElem (l := V) (i := j - 1) (by omega)
    have a1 := h2 i0 j0 hj _ _ ex ey
    have a2 := none_behind hw hu ex (hw.irr _) u hu1
    have a3 := none_upto hw hv ey (hw.irr _) v (by rw [show j - 1 + 1 = j by omega]; exact hv1)
    cases hq : lt v u with
    | true => rfl
    | false =>
      have := hw.neg _ _ _ (hw.neg _ _ _ a3 hq) a2
      rw [a1] at this; cases this

theorem merge_none {lt : α → α → Bool} {U V : List α} (h : ¬ (0 < U.length ∧ 0 < V.length)) : merge lt U V = U ++ V := by
  rcases U with _ | ⟨x, U⟩
  · simp
  · rcases V with _ | ⟨y, V⟩
    · simp
    · exact absurd ⟨by simp, by simp⟩ h

end Go.Proofs.Ytieaobeidlhefaa
