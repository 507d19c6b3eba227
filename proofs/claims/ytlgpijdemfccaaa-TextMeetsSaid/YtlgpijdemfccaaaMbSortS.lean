/- Several texts laid together: SortSym1, SortSym2, SortSym, SortStable. -/
import Derived.Test.YtlgpijdemfccaaaMbSort
import Derived.Deep.DeepCutAuto
import Derived.Deep.CutBlock
namespace Go.Proofs.Ytlgpijdemfccaaa
set_option maxRecDepth 100000
open Go.RowKit Srt
variable {α : Type}

theorem all_below {lt : α → α → Bool} (hw : Weak lt) {V : List α} (hs : Sorted lt V) {h : Nat} {y x : α} (hy : V[h]? = some y) (hl : lt y x = true) : ∀ v ∈ V.take (h + 1), lt v x = true := by
  obtain ⟨hh, e⟩ := List.getElem?_eq_some_iff.1 hy
  rw [List.take_succ_eq_append_getElem hh, e]
  intro v hv
  rcases List.mem_append.1 hv with hv | hv
  · cases hq : lt v x with
    | true => rfl
    | false =>
      have h1 : lt y v = false := by
        rw [← List.take_append_drop h V, List.drop_eq_getElem_cons hh, e] at hs
        exact (Sorted.split hs).2.2 v hv y (by simp)
      have := hw.neg _ _ _ h1 hq
      rw [hl] at this; cases this
  · simp at hv; subst hv; exact hl

theorem none_behind {lt : α → α → Bool} (hw : Weak lt) {V : List α} (hs : Sorted lt V) {h : Nat} {y x : α} (hy : V[h]? = some y) (hl : lt y x = false) : ∀ v ∈ V.drop h, lt v x = false := by
  obtain ⟨hh, e⟩ := List.getElem?_eq_some_iff.1 hy
  rw [List.drop_eq_getElem_cons hh, e]
  intro v hv
  rcases List.mem_cons.1 hv with rfl | hv
  · exact hl
  · have h1 : lt v y = false := by
      rw [← List.take_append_drop (h + 1) V, List.take_succ_eq_append_getElem hh, e] at hs
      exact (Sorted.split hs).2.2 y (by simp) v hv
    exact hw.neg _ _ _ h1 hl

/-- the same, told of the one -/
theorem none_upto {lt : α → α → Bool} (hw : Weak lt) {U : List α} (hs : Sorted lt U) {h : Nat} {y x : α} (hy : U[h]? = some y) (hl : lt x y = false) : ∀ u ∈ U.take (h + 1), lt x u = false := by
  obtain ⟨hh, e⟩ := List.getElem?_eq_some_iff.1 hy
  rw [List.take_succ_eq_append_getElem hh, e]
  intro v hv
  rcases List.mem_append.1 hv with hv | hv
  · have h1 : lt y v = false := by
      rw [← List.take_append_drop h U, List.drop_eq_getElem_cons hh, e] at hs
      exact (Sorted.split hs).2.2 v hv y (by simp)
    exact hw.neg _ _ _ hl h1
  · simp at hv; subst hv; exact hl
theorem all_behind {lt : α → α → Bool} (hw : Weak lt) {U : List α} (hs : Sorted lt U) {h : Nat} {y x : α} (hy : U[h]? = some y) (hl : lt x y = true) : ∀ u ∈ U.drop h, lt x u = true := by
  obtain ⟨hh, e⟩ := List.getElem?_eq_some_iff.1 hy
  rw [List.drop_eq_getElem_cons hh, e]
  intro v hv
  rcases List.mem_cons.1 hv with rfl | hv
  · exact hl
  · cases hq : lt x v with
    | true => rfl
    | false =>
      have h1 : lt v y = false := by
        rw [← List.take_append_drop (h + 1) U, List.take_succ_eq_append_getElem hh, e] at hs
        exact (Sorted.split hs).2.2 y (by simp) v hv
      have := hw.neg _ _ _ hq h1
      rw [hl] at this; cases this

end Go.Proofs.Ytlgpijdemfccaaa

namespace Go.Proofs.Ytlgpijdemfccaaa
set_option maxRecDepth 100000
open Go.RowKit Srt
variable {α : Type}

end Go.Proofs.Ytlgpijdemfccaaa

namespace Go.Proofs.Ytlgpijdemfccaaa
set_option maxRecDepth 100000
open Go.RowKit Srt
variable {α : Type}

theorem cut_merge {lt : α → α → Bool} (hw : Weak lt) {U V : List α} (hu : Sorted lt U) (hv : Sorted lt V) {i j : Nat}
    (h1 : 0 < i → i ≤ U.length → j < V.length → ∀ x y, U[i - 1]? = some x → V[j]? = some y → lt y x = false) (h2 : i < U.length → 0 < j → j ≤ V.length → ∀ x y, U[i]? = some x → V[j - 1]? = some y → lt y x = true) (hi : i ≤ U.length) (hj : j ≤ V.length) :
    merge lt U V = merge lt (U.take i) (V.take j) ++ merge lt (U.drop i) (V.drop j) := by
  conv => lhs; rw [← List.take_append_drop i U, ← List.take_append_drop j V]
  refine merge_split _ _ _ _ ?_ ?_
  · intro u hu1 v hv1
    have i0 : 0 < i := by
      rcases Nat.eq_zero_or_pos i with h | h
      · subst h; simp at hu1
      · exact h
    have j0 : j < V.length := by
      rcases Nat.lt_or_ge j V.length with h | h
      · exact h
      · rw [List.drop_of_length_le h] at hv1; simp at hv1
    have ex := List.getElem?_eq_getElem (l := U) (i := i - 1) (by omega)
    have ey := List.getElem?_eq_getElem (l := V) j0
    have a1 := h1 i0 hi j0 _ _ ex ey
    have a2 := none_upto hw hu ex (hw.irr _) u (by rw [show i - 1 + 1 = i by omega]; exact hu1)
    have a3 := none_behind hw hv ey (hw.irr _) v hv1
    exact hw.neg _ _ _ (hw.neg _ _ _ a3 a1) a2
  · intro v hv1 u hu1
    have j0 : 0 < j := by
      rcases Nat.eq_zero_or_pos j with h | h
      · subst h; simp at hv1
      · exact h
    have i0 : i < U.length := by
      rcases Nat.lt_or_ge i U.length with h | h
      · exact h
      · rw [List.drop_of_length_le h] at hu1; simp at hu1
    have ex := List.getElem?_eq_getElem (l := U) i0
    have ey := List.getElem?_eq_getElem (l := V) (i := j - 1) (by omega)
    have a1 := h2 i0 j0 hj _ _ ex ey
    have a2 := none_behind hw hu ex (hw.irr _) u hu1
    have a3 := none_upto hw hv ey (hw.irr _) v (by rw [show j - 1 + 1 = j by omega]; exact hv1)
    cases hq : lt v u with
    | true => rfl
    | false =>
      have := hw.neg _ _ _ (hw.neg _ _ _ a3 hq) a2
      rw [a1] at this; cases this

theorem merge_none {lt : α → α → Bool} {U V : List α} (h : ¬ (0 < U.length ∧ 0 < V.length)) : merge lt U V = U ++ V := by
  rcases U with _ | ⟨x, U⟩
  · simp
  · rcases V with _ | ⟨y, V⟩
    · simp
    · exact absurd ⟨by simp, by simp⟩ h

end Go.Proofs.Ytlgpijdemfccaaa

namespace Go.Proofs.Ytlgpijdemfccaaa
set_option maxRecDepth 100000
open Go.RowKit Srt
variable {α : Type}

theorem twice (k s : Nat) : 2 * k * s = k * (2 * s) := by rw [Nat.mul_comm 2 k, Nat.mul_assoc]
theorem tail_part {lt : α → α → Bool} {s : Nat} {l : List α} {k K : Nat} (h : l.length ≤ k * (2 * s) + s) (hK : l.length ≤ K * s) :
    parts lt s l (2 * k) (K - 2 * k) = Srt.part lt (2 * s) l k := by
  have e := twice k s
  rcases Nat.eq_zero_or_pos (K - 2 * k) with h0 | h0
  · rw [h0, parts]
    have h1 : K * s ≤ 2 * k * s := Nat.mul_le_mul_right s (by omega)
    exact (part_none (by omega)).symm
  · obtain ⟨q, hq⟩ : ∃ q, K - 2 * k = q + 1 := ⟨K - 2 * k - 1, by omega⟩
    have h1 : (2 * k + 1) * s = 2 * k * s + s := Nat.succ_mul _ _
    rw [hq, parts, parts_none q (2 * k + 1) (by omega), List.append_nil, part_last h]

theorem parts_two {lt : α → α → Bool} {s : Nat} {l : List α} {k K : Nat} (h : 2 * k + 2 ≤ K) :
    parts lt s l (2 * k) (K - 2 * k) = Srt.part lt s l (2 * k) ++ (Srt.part lt s l (2 * k + 1) ++ parts lt s l (2 * (k + 1)) (K - 2 * (k + 1))) := by
  rw [show K - 2 * k = (K - 2 * (k + 1)) + 1 + 1 by omega, parts, parts]
  rfl

theorem parts_len_all {lt : α → α → Bool} {s : Nat} {l : List α} : ∀ (m i : Nat), (parts lt s l i m).length = min (m * s) (l.length - i * s)
  | 0, i => by simp [parts]
  | m + 1, i => by
    have h1 : (m + 1) * s = m * s + s := Nat.succ_mul _ _
    have h2 : (i + 1) * s = i * s + s := Nat.succ_mul _ _
    rw [parts, List.length_append, part_len, parts_len_all m (i + 1)]
    omega

end Go.Proofs.Ytlgpijdemfccaaa

