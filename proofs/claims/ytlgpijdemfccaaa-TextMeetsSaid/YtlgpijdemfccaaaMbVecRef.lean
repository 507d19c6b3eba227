/- Layer 5: the document's answer: Upto, Right, Equal, Total; how many places. -/
import Derived.Test.YtlgpijdemfccaaaMbVecAll
namespace Go.Proofs.Ytlgpijdemfccaaa
set_option maxRecDepth 100000
open Go.RowKit

theorem okN_iff (x : Int) : okN x = true ↔ 0 ≤ x ∧ x ≤ 1048576 := by simp [okN]
theorem okN_no {x : Int} (h : x < 0 ∨ 1048576 < x) : okN x = false := by
  cases he : okN x with
  | false => rfl
  | true => rw [okN_iff] at he; omega
theorem take_all {l : List Int} {k : Nat} {x : Int} (h : (l.take k).all okN = true) (hx : l[k]? = some x) (ho : okN x = true) : (l.take (k + 1)).all okN = true := by
  rw [List.take_add_one, hx, List.all_append, h]; simp [ho]
theorem take_no {l : List Int} {k : Nat} {x : Int} (hx : l[k]? = some x) (ho : okN x = false) : rightV l = false := by
  unfold rightV
  rw [show l.all okN = false from List.all_eq_false.2 ⟨x, List.mem_of_getElem? hx, by rw [ho]; simp⟩, Bool.and_false]

/-- a sum of what may be is no greater than so many times what may be -/
theorem total_take (l : List Int) (k : Nat) {x : Int} (hx : l[k]? = some x) : totalV (l.take (k + 1)) = totalV (l.take k) + x := by
  unfold totalV
  rw [List.take_add_one, hx, List.foldl_append]; rfl
theorem total_le {l : List Int} (h : l.all okN = true) : ∀ k, 0 ≤ totalV (l.take k) ∧ totalV (l.take k) ≤ (min k l.length : Nat) * 1048576
  | 0 => by simp [totalV]
  | k + 1 => by
    obtain ⟨h1, h2⟩ := total_le h k
    by_cases hk : k < l.length
    · have hx := List.getElem?_eq_getElem hk
      have ho := (okN_iff _).1 (List.all_eq_true.1 h _ (List.getElem_mem hk))
      rw [total_take l k hx]
      rw [show min (k + 1) l.length = min k l.length + 1 by omega]
      omega
    · rw [List.take_of_length_le (by omega)] at h1 h2 ⊢
      rw [show min (k + 1) l.length = min k l.length by omega]
      exact ⟨h1, h2⟩

end Go.Proofs.Ytlgpijdemfccaaa

