/- slices.symMergeCmpFunc at numbers, where the second part holds one alone. -/
import Derived.Test.YtieaobeidlhefaaSortSym1
namespace Go.Proofs.Ytieaobeidlhefaa
set_option maxRecDepth 100000
open Go.RowKit Srt
variable {α : Type}

end Go.Proofs.Ytieaobeidlhefaa
