/- Layer 8: what the laws share: how answers look, whatever they are. -/
import Derived.Test.YtieaobeidlhefaaCntAwake
namespace Go.Proofs.Ytieaobeidlhefaa
set_option maxRecDepth 100000
open Go.RowKit

theorem outC_is (s : Int) : ∃ k u, outC s = cellV k u (.slice none 0 0) := by
  unfold outC
  split
  · exact ⟨_, _, rfl⟩
  · exact ⟨_, _, rfl⟩
theorem addC_is (x : C5) (m : Int) : ∃ k u, addC x m = cellV k u (.slice none 0 0) := by
  unfold addC
  split
  · exact outC_is _
  · exact ⟨_, _, rfl⟩
theorem mergeC_is (a b o : C5) : ∃ k u, mergeC a b o = cellV k u (.slice none 0 0) := by
  unfold mergeC
  split
  · exact outC_is _
  · exact ⟨_, _, rfl⟩
theorem same_self (k a b : Int) (s : ByteArray) (w : World) :
    Calls Try.prog 42 #[cellV k ⟨a, b, s⟩ (.slice none 0 0), cellV k ⟨a, b, s⟩ (.slice none 0 0)] w fun e w' => e = .returned (.bool true) ∧ Below w.heap.size w w' := by
  have := refSame8_any ⟨k, ⟨a, b, s⟩, none, 0, 0⟩ ⟨k, ⟨a, b, s⟩, none, 0, 0⟩ w
  rw [show same8 ⟨k, ⟨a, b, s⟩, none, 0, 0⟩ ⟨k, ⟨a, b, s⟩, none, 0, 0⟩ = true by simp [same8, sameZ]] at this
  exact this
theorem sameZ_self (a b : Int) (s : ByteArray) : sameZ a b s a b s = true := by simp [sameZ]
theorem wf_i32r {x : Int} (h : (Lit.int .i32 x).wf = true) : -2147483648 ≤ x ∧ x ≤ 2147483647 := by
  simpa [Lit.wf, IntKind.min, IntKind.max, IntKind.signed, IntKind.bits] using h
end Go.Proofs.Ytieaobeidlhefaa
