/- slices.SortStableFunc at numbers: what is sorted holds the same numbers in order, and what is alike as it stood. -/
import Derived.Test.YtieaobeidlhefaaSortSym
namespace Go.Proofs.Ytieaobeidlhefaa
set_option maxRecDepth 100000
open Go.RowKit Srt
variable {α : Type}

theorem twice (k s : Nat) : 2 * k * s = k * (2 * s) := by rw [Nat.mul_comm 2 k, Nat.mul_assoc]
theorem tail_part {lt : α → α → Bool} {s : Nat} {l : List α} {k K : Nat} (h : l.length ≤ k * (2 * s) + s) (hK : l.length ≤ K * s) :
    parts lt s l (2 * k) (K - 2 * k) = Srt.part lt (2 * s) l k := by
  have e := twice k s
  rcases Nat.eq_zero_or_pos (K - 2 * k) with h0 | h0
  · rw [h0, parts]
    have h1 : K * s ≤ 2 * k * s := Nat.mul_le_mul_right s (by omega)
    exact (part_none (by omega)).symm
  · obtain ⟨q, hq⟩ : ∃ q, K - 2 * k = q + 1 := ⟨K - 2 * k - 1, by omega⟩
    have h1 : (2 * k + 1) * s = 2 * k * s + s := Nat.succ_mul _ _
    rw [hq, parts, parts_none q (2 * k + 1) (by omega), List.append_nil, part_last h]

theorem parts_two {lt : α → α → Bool} {s : Nat} {l : List α} {k K : Nat} (h : 2 * k + 2 ≤ K) :
    parts lt s l (2 * k) (K - 2 * k) = Srt.part lt s l (2 * k) ++ (Srt.part lt s l (2 * k + 1) ++ parts lt s l (2 * (k + 1)) (K - 2 * (k + 1))) := by
  rw [show K - 2 * k = (K - 2 * (k + 1)) + 1 + 1 by omega, parts, parts]
  rfl

theorem parts_len_all {lt : α → α → Bool} {s : Nat} {l : List α} : ∀ (m i : Nat), (parts lt s l i m).length = min (m * s) (l.length - i * s)
  | 0, i => by simp [parts]
  | m + 1, i => by
    have h1 : (m + 1) * s = m * s + s := Nat.succ_mul _ _
    have h2 : (i + 1) * s = i * s + s := Nat.succ_mul _ _
    rw [parts, List.length_append, part_len, parts_len_all m (i + 1)]
    omega

end Go.Proofs.Ytieaobeidlhefaa
