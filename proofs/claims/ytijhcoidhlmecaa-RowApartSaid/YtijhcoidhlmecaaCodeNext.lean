/- The next number of a row: the closure of package code's GetNums. -/
import Derived.Test.YtijhcoidhlmecaaRows
import Derived.Test.YtijhcoidhlmecaaMem
import Derived.Test.YtijhcoidhlmecaaCodeGetText
namespace Go.Proofs.Ytijhcoidhlmecaa
set_option maxRecDepth 100000
open Go.RowKit

/-- numbers, one behind the other, from a place on -/
def numsI : Nat → List Int → Nat → List Int → Option (List Int × Nat)
  | 0, acc, at_, _ => some (acc, at_)
  | k + 1, acc, at_, l =>
    match getZ (l.drop at_) with
    | none => none
    | some (x, u) => numsI k (acc ++ [x]) (at_ + u) l
def numsZ (l : List Int) : Option (List Int × Nat) :=
  match getZ l with
  | some (n, k) => if 0 ≤ n then numsI n.toNat [] k l else none
  | none => none

/-- bytes cut at the front, whichever way the cut is told -/
theorem Rd.cut8 {w : World} {b o n c : Nat} {l : List Int} (h : Rd w (some ⟨b, o, none⟩) n c (vals .u8 l)) {k : Nat} (hk : k ≤ n) :
    Rd w (if c = k then some ⟨b, o, none⟩ else some ⟨b, o + k, none⟩) (n - k) (c - k) (vals .u8 (l.drop k)) := by
  have h1 := h.cut hk
  rw [vals, List.map_drop]
  have e : (if c = k then some (⟨b, o, none⟩ : Addr) else (some (⟨b, o, none⟩ : Addr)).map (·.add k)) = (if c = k then some ⟨b, o, none⟩ else some ⟨b, o + k, none⟩) := by
    congr 1
    simp only [Option.map_some, Addr.add]
    by_cases h0 : k = 0 <;> simp [h0]
  rw [← e]; exact h1

/-- what the closure hands back -/
def nextV (r : Option (Int × Nat)) : Value :=
  match r with
  | some (x, _) => .tuple #[.int .i64 x, .bool true]
  | none => .tuple #[.int .i64 0, .bool false]
def nextAt (r : Option (Int × Nat)) : Nat :=
  match r with
  | some (_, u) => u
  | none => 0

end Go.Proofs.Ytijhcoidhlmecaa
