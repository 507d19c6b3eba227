/- Layer 3: which rows may stand in which columns, how two rows stand to one another: the code and the document's answer. -/
import Derived.Test.YtlgpijdemfccaaaMbRowMem
import Derived.Test.YtlgpijdemfccaaaMbVal
namespace Go.Proofs.Ytlgpijdemfccaaa
set_option maxRecDepth 100000
open Go.RowKit

abbrev V3.right (v : V3) : Bool := rightZ v.k v.n v.s.size

/-- the kind of a column's values -/
def kindZ (c : C4) : Int := if c.k = 0 ∨ c.k = 1 then c.t else if c.k = 2 ∨ c.k = 3 then 1 else if c.k = 4 then 2 else 0

/-- may a column not be nothing -/
def mustZ (c : C4) : Bool := !c.z && (decide (c.k = 0) || decide (c.k = 1))

/-- the error of a value in a column -/
def fitZ (c : C4) (v : V3) : Int := if v.right = true then (if v.k = 0 then (if mustZ c = true then 7 else 0) else if v.k = kindZ c then 0 else 6) else 1
theorem ret_i64 {a b : Int} (h : a = b) : Ending.returned (.int .i64 a) = .returned (.int .i64 b) := by rw [h]

end Go.Proofs.Ytlgpijdemfccaaa

