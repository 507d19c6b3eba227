/- Layer 5: whether something holds of each device: the code, by closures, and the document's answer. -/
import Derived.Test.YtlgpijdemfccaaaMbVecOf
import Derived.Shelf.Abstract
namespace Go.Proofs.Ytlgpijdemfccaaa
set_option maxRecDepth 100000
open Go.RowKit

/-- what a closure over two numbers tells -/
def TellsB (P : Program) (g : Nat) (p : Int → Int → Bool) : Prop :=
  ∀ (x y : Int) (W : World), Calls P g #[.int .i64 x, .int .i64 y] W fun e W' => e = .returned (.bool (p x y)) ∧ W' = W

theorem allV_step {p : Int → Int → Bool} {a b : List Int} {k : Nat} {r : Bool} (h : ((List.range k).all fun j => p (ofN a j) (ofN b j)) = true) (hr : p (ofN a k) (ofN b k) = r) : ((List.range (k + 1)).all fun j => p (ofN a j) (ofN b j)) = r := by
  rw [List.range_succ, List.all_append, h]; simp [hr]
theorem allV_no {p : Int → Int → Bool} {a b : List Int} {k n : Nat} (hk : k < n) (hr : p (ofN a k) (ofN b k) = false) : ((List.range n).all fun j => p (ofN a j) (ofN b j)) = false := by
  rw [List.all_eq_false]; exact ⟨k, List.mem_range.2 hk, by rw [hr]; simp⟩

end Go.Proofs.Ytlgpijdemfccaaa

