/- slices.symMergeCmpFunc at numbers, where one of the two parts holds one alone: it is put where it belongs. -/
import Derived.Test.YtieaobeidlhefaaSortRot
namespace Go.Proofs.Ytieaobeidlhefaa
set_option maxRecDepth 100000
open Go.RowKit Srt
variable {α : Type}

theorem all_below {lt : α → α → Bool} (hw : Weak lt) {V : List α} (hs : Sorted lt V) {h : Nat} {y x : α} (hy : V[h]? = some y) (hl : lt y x = true) : ∀ v ∈ V.take (h + 1), lt v x = true := by
  obtain ⟨hh, e⟩ := List.getElem?_eq_some_iff.1 hy
  rw [List.take_succ_eq_append_getElem hh, e]
  intro v hv
  rcases List.mem_append.1 hv with hv | hv
  · cases hq : lt v x with
    | true => rfl
    | false =>
      have h1 : lt y v = false := by
        rw [← List.take_append_drop h V, List.drop_eq_getElem_cons hh, e] at hs
        exact (Sorted.split hs).2.2 v hv y (by simp)
      have := hw.neg _ _ _ h1 hq
      rw [hl] at this; cases this
  · simp at hv; subst hv; exact hl

theorem none_behind {lt : α → α → Bool} (hw : Weak lt) {V : List α} (hs : Sorted lt V) {h : Nat} {y x : α} (hy : V[h]? = some y) (hl : lt y x = false) : ∀ v ∈ V.drop h, lt v x = false := by
  obtain ⟨hh, e⟩ := List.getElem?_eq_some_iff.1 hy
  rw [List.drop_eq_getElem_cons hh, e]
  intro v hv
  rcases List.mem_cons.1 hv with rfl | hv
  · exact hl
  · have h1 : lt v y = false := by
      rw [← List.take_append_drop (h + 1) V, List.take_succ_eq_append_getElem hh, e] at hs
      exact (Sorted.split hs).2.2 y (by simp) v hv
    exact hw.neg _ _ _ h1 hl

/-- the same, told of the one -/
theorem none_upto {lt : α → α → Bool} (hw : Weak lt) {U : List α} (hs : Sorted lt U) {h : Nat} {y x : α} (hy : U[h]? = some y) (hl : lt x y = false) : ∀ u ∈ U.take (h + 1), lt x u = false := by
  obtain ⟨hh, e⟩ := List.getElem?_eq_some_iff.1 hy
  rw [List.take_succ_eq_append_getElem hh, e]
  intro v hv
  rcases List.mem_append.1 hv with hv | hv
  · have h1 : lt y v = false := by
      rw [← List.take_append_drop h U, List.drop_eq_getElem_cons hh, e] at hs
      exact (Sorted.split hs).2.2 v hv y (by simp)
    exact hw.neg _ _ _ hl h1
  · simp at hv; subst hv; exact hl
theorem all_behind {lt : α → α → Bool} (hw : Weak lt) {U : List α} (hs : Sorted lt U) {h : Nat} {y x : α} (hy : U[h]? = some y) (hl : lt x y = true) : ∀ u ∈ U.drop h, lt x u = true := by
  obtain ⟨hh, e⟩ := List.getElem?_eq_some_iff.1 hy
  rw [List.drop_eq_getElem_cons hh, e]
  intro v hv
  rcases List.mem_cons.1 hv with rfl | hv
  · exact hl
  · cases hq : lt x v with
    | true => rfl
    | false =>
      have h1 : lt v y = false := by
        rw [← List.take_append_drop (h + 1) U, List.take_succ_eq_append_getElem hh, e] at hs
        exact (Sorted.split hs).2.2 y (by simp) v hv
      have := hw.neg _ _ _ hq h1
      rw [hl] at this; cases this

end Go.Proofs.Ytieaobeidlhefaa
