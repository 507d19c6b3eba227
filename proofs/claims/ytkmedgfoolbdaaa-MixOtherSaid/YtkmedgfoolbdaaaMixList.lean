/- Layer 6: the list of steps. -/
import Derived.Test.YtkmedgfoolbdaaaMixStep
import Derived.Test.YtkmedgfoolbdaaaStruct
import Derived.Laws.EntriesVeiled
import Derived.Deep.WholeRow
namespace Go.Proofs.Ytkmedgfoolbdaaa
set_option maxRecDepth 100000
open Go.RowKit
def stepsL : Array Value :=
  #[.func (.func 22) #[] #[], .func (.func 23) #[] #[], .int .u64 11400714819323198485,
    .func (.func 24) #[] #[], .func (.func 25) #[] #[], .int .u64 30,
    .func (.func 26) #[] #[], .func (.func 27) #[] #[], .int .u64 13787848793156543929,
    .func (.func 24) #[] #[], .func (.func 25) #[] #[], .int .u64 27,
    .func (.func 26) #[] #[], .func (.func 27) #[] #[], .int .u64 10723151780598845931,
    .func (.func 24) #[] #[], .func (.func 25) #[] #[], .int .u64 31]
theorem mixSteps_any (w : World) :
    Calls Try.prog 17 #[] w fun e w' => e = .returned (.agg stepsL) ∧ Below w.heap.size w w' := by
  have hL := stepsL.eq_def.symm
  have hsc := run_storeCells_new (P := Try.prog) w 37 #[.nilFunc, .nilFunc, .int .u64 0, .nilFunc, .nilFunc, .int .u64 0, .nilFunc, .nilFunc, .int .u64 0, .nilFunc, .nilFunc, .int .u64 0, .nilFunc, .nilFunc, .int .u64 0, .nilFunc, .nilFunc, .int .u64 0] stepsL (by kernel_rfl) (by kernel_rfl) (by kernel_rfl)
  go_enter Try.func17, Try.ntmps17
  go_wp2
  refine bodyPost_ret (v := .agg stepsL) (results_cell_row rfl _ _ _ _ _ _ _ rfl (heap_alloc_new _ _) Try.underlying37 rfl (by kernel_rfl)) rfl ⟨rfl, ?_⟩
  exact (Below.refl _ _).alloc (Nat.le_refl _) _
end Go.Proofs.Ytkmedgfoolbdaaa
