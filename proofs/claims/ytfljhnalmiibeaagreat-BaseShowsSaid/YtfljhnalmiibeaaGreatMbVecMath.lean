/- Layer 5: vectors in plain mathematics: what they have of each place, what two come to. Of no program. -/
import Derived.Test.YtfljhnalmiibeaaGreatMbMem
namespace Go.Proofs.YtfljhnalmiibeaaGreat
set_option maxRecDepth 100000
/-- what a vector has at a place; nothing behind its end -/
def ofN (l : List Int) (k : Nat) : Int := l.getD k 0
/-- what it has of a device -/
def ofV (l : List Int) (d : Int) : Int := if d < 1 then 0 else ofN l (d.toNat - 1)
def hasV (v : List Int) (d s : Int) : Bool := decide (1 ≤ s) && decide (s ≤ ofV v d)
end Go.Proofs.YtfljhnalmiibeaaGreat

