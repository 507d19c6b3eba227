/- Layer 5: Trim, Join, Meet, Set: the document's answer. -/
import Derived.Test.YtlgpijdemfccaaaMbVecSet
namespace Go.Proofs.Ytlgpijdemfccaaa
set_option maxRecDepth 100000
open Go.RowKit

theorem endN_congr {a b : List Int} : ∀ n, (∀ k, k < n → ofN a k = ofN b k) → endN a n = endN b n
  | 0, _ => rfl
  | n + 1, h => by
    unfold endN
    rw [h n (by omega), endN_congr n (fun k hk => h k (by omega))]
theorem ofN_take {l : List Int} {n k : Nat} (h : k < n) : ofN (l.take n) k = ofN l k := by
  simp [ofN, List.getD, h]
theorem trim_shut {l : List Int} {n : Nat} (hl : l.length = n + 1) (h : ofN l n = 0) : trimV (l.take n) = trimV l := by
  have e : endV (l.take n) = endV l := by
    unfold endV
    rw [hl, List.length_take, show min n l.length = n by omega, endN_congr (a := l.take n) (b := l) n (fun k hk => ofN_take hk)]
    conv => rhs; unfold endN
    rw [if_pos h]
  unfold trimV
  rw [e, List.take_take, show min (endV l) n = endV l by rw [← e]; have := endV_le (l.take n); rw [List.length_take] at this; omega]
theorem trim_end {l : List Int} {n : Nat} (hl : l.length = n + 1) (h : ofN l n ≠ 0) : trimV l = l := by
  have e : endV l = n + 1 := by unfold endV; rw [hl]; unfold endN; rw [if_neg h]
  unfold trimV; rw [e, ← hl, List.take_length]
theorem trim_nil {l : List Int} (hl : l.length = 0) : trimV l = l := by
  obtain rfl := List.eq_nil_of_length_eq_zero hl
  rfl

theorem row_more (N : Nat) (q : Nat → Int) : vals .i64 (rowV N q) ++ [.int .i64 (q N)] = vals .i64 (rowV (N + 1) q) := by
  simp [vals, rowV, List.range_succ]

end Go.Proofs.Ytlgpijdemfccaaa

