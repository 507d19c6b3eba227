/- b[1:] of bytes that came in, as one equation: the walk need not part at the capacity. -/
import Derived.Test.YtkicjhphiibifaaDoorCodeNext
namespace Go.Proofs.YtkicjhphiibifaaDoor
set_option maxRecDepth 100000
open Go.RowKit

theorem run_from1 {b o n c : Nat} (h1 : 1 ≤ n) (W : World) : (Instr.slice 32 (.slice (some ⟨b, o, none⟩) n c) (some (.int .i64 1)) none none).run Tryd.prog W =
    .ok (.slice (if c = 1 then some ⟨b, o, none⟩ else some ⟨b, o + 1, none⟩) (n - 1) (c - 1)) W := by
  have hz : (sizeOf (Tryd.prog.elem 32)).run Tryd.prog W = .ok 1 W := by kernel_rfl
  have ht : Tryd.prog.underlying 32 = some (.slice (Tryd.prog.elem 32)) := by kernel_rfl
  rw [run_slice_l (P := Tryd.prog) (w := W) (t := 32) (a := some ⟨b, o, none⟩) (len := n) (cap := c) (ht := ht) (kl := .i64) (l := 1) (h0 := by omega) (h1 := by omega), hz]
  simp [Result.andThen, sliced, Addr.add]
end Go.Proofs.YtkicjhphiibifaaDoor
