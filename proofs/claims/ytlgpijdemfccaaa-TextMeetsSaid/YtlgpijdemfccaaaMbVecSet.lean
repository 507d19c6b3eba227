/- Layer 5: Clone, Trim, Set: the code. -/
import Derived.Test.YtlgpijdemfccaaaMbVecMake
import Derived.Lib.SliceRun
namespace Go.Proofs.Ytlgpijdemfccaaa
set_option maxRecDepth 100000
open Go.RowKit

/-- a row that a copy was laid over, and one place -/
theorem splice_row (l : List Int) (N : Nat) (hN : l.length ≤ N) : splice (List.replicate N (0 : Int)) 0 l = rowV N (fun k => ofN l k) := by
  apply List.ext_getElem?
  intro k
  simp only [splice, List.take_zero, List.nil_append, Nat.zero_add]
  by_cases hk : k < l.length
  · rw [List.getElem?_append_left hk, rowV, List.getElem?_map, List.getElem?_range (by omega), List.getElem?_eq_getElem hk]
    simp [ofN_lt hk]
  · rw [List.getElem?_append_right (by omega), List.getElem?_drop, rowV, List.getElem?_map]
    by_cases hk2 : k < N
    · rw [List.getElem?_replicate, if_pos (by omega), List.getElem?_range hk2]
      simp [ofN_out (show l.length ≤ k by omega)]
    · rw [List.getElem?_replicate, if_neg (by omega), List.getElem?_eq_none (by simp; omega)]
      rfl
theorem vals_splice (a b : List Int) : splice (vals .i64 a) 0 (vals .i64 b) = vals .i64 (splice a 0 b) := by
  simp [splice, vals]
theorem row_put (l : List Int) (N k : Nat) (x : Int) (hk : k < N) : (rowV N (fun j => ofN l j)).set k x = rowV N (fun j => if (j : Int) + 1 = (k : Int) + 1 then x else ofN l j) := by
  apply List.ext_getElem?
  intro j
  rw [List.getElem?_set]
  simp only [rowV, List.getElem?_map, List.length_map, List.length_range]
  by_cases hj : j < N
  · rw [List.getElem?_range hj]
    by_cases e : k = j
    · subst e; simp [hk]
    · simp [e]; omega
  · rw [List.getElem?_eq_none (by simp; omega)]
    by_cases e : k = j
    · omega
    · simp [e]

end Go.Proofs.Ytlgpijdemfccaaa

