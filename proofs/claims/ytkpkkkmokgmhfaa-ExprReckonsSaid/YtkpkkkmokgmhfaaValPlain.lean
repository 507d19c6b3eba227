/- Layer 2: which values may be, which is ahead, which are one: the code and the document's answer. -/
import Derived.Test.YtkpkkkmokgmhfaaRows
import Derived.Test.YtkpkkkmokgmhfaaMem
import Derived.Test.YtkpkkkmokgmhfaaValMath
import Derived.Sort.Walk0
import Derived.BigQuiet
import Derived.Deep.RegionWith
import Derived.Outline
import Derived.Deep.DeepCutAuto
import Derived.Deep.CutBlock
namespace Go.Proofs.Ytkpkkkmokgmhfaa
set_option maxRecDepth 100000
open Go.RowKit

abbrev valCells (k n : Int) (s : ByteArray) : Obj := .cells #[.int .i64 k, .int .i64 n, .string s] 23

theorem iem (s : ByteArray) : s.toList.isEmpty = (s.size == 0) := by
  rw [Lib.toList_data]
  cases s with
  | mk a => cases a with | mk l => cases l <;> simp [ByteArray.size]

theorem size_zero {s : ByteArray} (h : s.size = 0) : s = ByteArray.empty := by
  cases s with
  | mk a => cases a with | mk l => cases l with
    | nil => rfl
    | cons x r => simp [ByteArray.size] at h

/-- is a ahead of b -/
def lessZ (k n : Int) (s : ByteArray) (k' n' : Int) (s' : ByteArray) : Bool :=
  decide (k < k') || (decide (k = k') && decide (n < n')) || (decide (k = k') && decide (n = n') && decide (s.data.toList < s'.data.toList))

theorem strLess (s t : ByteArray) : Op.bytesLess s.toList t.toList = decide (s.data.toList < t.data.toList) := by
  rw [bytesLess_eq, Lib.toList_data, Lib.toList_data]

/-- are both one -/
def sameZ (k n : Int) (s : ByteArray) (k' n' : Int) (s' : ByteArray) : Bool := decide (k = k') && decide (n = n') && decide (s = s')

end Go.Proofs.Ytkpkkkmokgmhfaa
