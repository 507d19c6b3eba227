/- b[1:] of bytes that came in, as one equation: the walk need not part at the capacity. -/
import Derived.Test.YtijhcoidhlmecaaCodeNext
namespace Go.Proofs.Ytijhcoidhlmecaa
set_option maxRecDepth 100000
open Go.RowKit

theorem run_from1 {b o n c : Nat} (h1 : 1 ≤ n) (W : World) : (Instr.slice 35 (.slice (some ⟨b, o, none⟩) n c) (some (.int .i64 1)) none none).run Try.prog W =
    .ok (.slice (if c = 1 then some ⟨b, o, none⟩ else some ⟨b, o + 1, none⟩) (n - 1) (c - 1)) W := by
  have hz : (sizeOf (Try.prog.elem 35)).run Try.prog W = .ok 1 W := by kernel_rfl
  have ht : Try.prog.underlying 35 = some (.slice (Try.prog.elem 35)) := by kernel_rfl
  rw [run_slice_l (P := Try.prog) (w := W) (t := 35) (a := some ⟨b, o, none⟩) (len := n) (cap := c) (ht := ht) (kl := .i64) (l := 1) (h0 := by omega) (h1 := by omega), hz]
  simp [Result.andThen, sliced, Addr.add]
end Go.Proofs.Ytijhcoidhlmecaa
