/- Layer 5: whether a dot is known: the code and the document's answer. -/
import Derived.Test.YtlgpijdemfccaaaMbVecRef
import Derived.Test.YtlgpijdemfccaaaMbBase
import Derived.Deep.RegionHeld3
namespace Go.Proofs.Ytlgpijdemfccaaa
set_option maxRecDepth 100000
open Go.RowKit

abbrev dotCells (d s : Int) : Obj := .cells #[.int .i64 d, .int .i64 s] 40

end Go.Proofs.Ytlgpijdemfccaaa

