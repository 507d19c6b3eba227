/- Layer 6: the number that was mixed: the code. -/
import Derived.Test.YtkmedgfoolbdaaaMixList
import Derived.Test.YtkmedgfoolbdaaaMixUndo
import Derived.Deep.WholeRow
import Derived.Deep.QuietTactic
import Derived.BigQuiet
namespace Go.Proofs.Ytkmedgfoolbdaaa
set_option maxRecDepth 100000
open Go.RowKit

/-- what a number is when so many steps are still to be taken back -/
def zB6 (n : BitVec 64) : BitVec 64 := n
def zB5 (n : BitVec 64) : BitVec 64 := undoW 31 (zB6 n)
def zB4 (n : BitVec 64) : BitVec 64 := zB5 n * 3573116690164977347#64
def zB3 (n : BitVec 64) : BitVec 64 := undoW 27 (zB4 n)
def zB2 (n : BitVec 64) : BitVec 64 := zB3 n * 10871156337175269513#64
def zB1 (n : BitVec 64) : BitVec 64 := undoW 30 (zB2 n)
def zB0 (n : BitVec 64) : BitVec 64 := zB1 n - 11400714819323198485#64
def bAt (n : BitVec 64) (i : Nat) : BitVec 64 :=
  match i with
  | 0 => zB0 n | 1 => zB1 n | 2 => zB2 n | 3 => zB3 n | 4 => zB4 n | 5 => zB5 n | _ => zB6 n
theorem bAt_0 (n : BitVec 64) : bAt n 0 = backW n := rfl

theorem wordMinus_lit (x y : BitVec 64) (l : Int) (h : wd y = l) (W : World) :
    Calls Try.prog 23 #[.int .u64 (wd x), .int .u64 l] W fun e W' => e = .returned (.int .u64 (wd (x - y))) ∧ W' = W := h ▸ wordMinus_any x y W

set_option maxHeartbeats 3200000 in
theorem mixBack_any (n : BitVec 64) (w : World) :
    Calls Try.prog 11 #[.int .u64 (wd n)] w fun e w' => e = .returned (.int .u64 (wd (backW n))) ∧ Below w.heap.size w w' := by
  go_enter Try.func11, Try.ntmps11
  go_wp2_with fail
  refine (mixSteps_any _).mono ?_
  rintro e w1 ⟨rfl, b1⟩
  have hsc := run_storeCells_new (P := Try.prog) w1 37 #[.nilFunc, .nilFunc, .int .u64 0, .nilFunc, .nilFunc, .int .u64 0, .nilFunc, .nilFunc, .int .u64 0, .nilFunc, .nilFunc, .int .u64 0, .nilFunc, .nilFunc, .int .u64 0, .nilFunc, .nilFunc, .int .u64 0] stepsL (by kernel_rfl) (by kernel_rfl) (by kernel_rfl)
  go_wp2_with fail
  have hg := heap_alloc_new w1 (.cells stepsL 37)
  have hb := b1.alloc b1.size (.cells stepsL 37)
  obtain ⟨G, hG, hGe⟩ : ∃ G, w1.heap.size = G ∧ Hid (w1.heap.size = G) := ⟨_, rfl, rfl⟩
  obtain ⟨W0, hW0, hw0⟩ : ∃ W0, w1.alloc (.cells stepsL 37) = W0 ∧ Hid (w1.alloc (.cells stepsL 37) = W0) := ⟨_, rfl, rfl⟩
  rw [hG, hW0]
  rw [hG, hW0] at hg
  rw [hW0] at hb
  have HG := Lib.hid hg; have HB := Lib.hid hb
  clear hsc hg hb hG hW0 hGe hw0 b1
  go_loopw [3, 5] (fun z k wr => ∃ i : Nat, k = .int .i64 ((i : Int) - 1) ∧ i ≤ 6 ∧ z = .int .u64 (wd (bAt n i)) ∧ Hid (Below w.heap.size w wr) ∧ Hid (wr.heap[G]? = some (.cells stepsL 37))) (fun _ k _ => ((intOf k) + 1).toNat)
  case atStart => exact ⟨6, rfl, by decide, rfl, HB, HG⟩
  case round =>
    obtain ⟨i, rfl, hi, rfl, hw, hg⟩ := hrel
    match i, hi with
    | 0, _ =>
      go_wp2
      go_ret
      exact ⟨rfl, hw.out⟩
    | 6, _ =>
      have c1 : wr.cell? ⟨G, 16, none⟩ = some (.func (.func 25) #[] #[]) := by rw [cell_of_row _ _ _ _ _ _ hg.out]; rfl
      have c2 : wr.cell? ⟨G, 17, none⟩ = some (.int .u64 31) := by rw [cell_of_row _ _ _ _ _ _ hg.out]; rfl
      go_wp2_with fail
      go_quiet ((go_at_call 25; refine Calls.quiet_of_same (wordUnfold_any (bAt n 6) 31 (by decide) (by decide) _)))
      go_wp2
      exact ⟨⟨5, rfl, by decide, rfl, Lib.hid (below_drewN hw.out _), Lib.hid hg.out⟩, by simp [intOf]⟩
    | 5, _ =>
      have c1 : wr.cell? ⟨G, 13, none⟩ = some (.func (.func 27) #[] #[]) := by rw [cell_of_row _ _ _ _ _ _ hg.out]; rfl
      have c2 : wr.cell? ⟨G, 14, none⟩ = some (.int .u64 10723151780598845931) := by rw [cell_of_row _ _ _ _ _ _ hg.out]; rfl
      go_wp2_with fail
      go_quiet ((go_at_call 27; refine Calls.quiet_of_same (wordOver_2 (bAt n 5) _)))
      go_wp2
      exact ⟨⟨4, rfl, by decide, rfl, Lib.hid (below_drewN hw.out _), Lib.hid hg.out⟩, by simp [intOf]⟩
    | 4, _ =>
      have c1 : wr.cell? ⟨G, 10, none⟩ = some (.func (.func 25) #[] #[]) := by rw [cell_of_row _ _ _ _ _ _ hg.out]; rfl
      have c2 : wr.cell? ⟨G, 11, none⟩ = some (.int .u64 27) := by rw [cell_of_row _ _ _ _ _ _ hg.out]; rfl
      go_wp2_with fail
      go_quiet ((go_at_call 25; refine Calls.quiet_of_same (wordUnfold_any (bAt n 4) 27 (by decide) (by decide) _)))
      go_wp2
      exact ⟨⟨3, rfl, by decide, rfl, Lib.hid (below_drewN hw.out _), Lib.hid hg.out⟩, by simp [intOf]⟩
    | 3, _ =>
      have c1 : wr.cell? ⟨G, 7, none⟩ = some (.func (.func 27) #[] #[]) := by rw [cell_of_row _ _ _ _ _ _ hg.out]; rfl
      have c2 : wr.cell? ⟨G, 8, none⟩ = some (.int .u64 13787848793156543929) := by rw [cell_of_row _ _ _ _ _ _ hg.out]; rfl
      go_wp2_with fail
      go_quiet ((go_at_call 27; refine Calls.quiet_of_same (wordOver_1 (bAt n 3) _)))
      go_wp2
      exact ⟨⟨2, rfl, by decide, rfl, Lib.hid (below_drewN hw.out _), Lib.hid hg.out⟩, by simp [intOf]⟩
    | 2, _ =>
      have c1 : wr.cell? ⟨G, 4, none⟩ = some (.func (.func 25) #[] #[]) := by rw [cell_of_row _ _ _ _ _ _ hg.out]; rfl
      have c2 : wr.cell? ⟨G, 5, none⟩ = some (.int .u64 30) := by rw [cell_of_row _ _ _ _ _ _ hg.out]; rfl
      go_wp2_with fail
      go_quiet ((go_at_call 25; refine Calls.quiet_of_same (wordUnfold_any (bAt n 2) 30 (by decide) (by decide) _)))
      go_wp2
      exact ⟨⟨1, rfl, by decide, rfl, Lib.hid (below_drewN hw.out _), Lib.hid hg.out⟩, by simp [intOf]⟩
    | 1, _ =>
      have c1 : wr.cell? ⟨G, 1, none⟩ = some (.func (.func 23) #[] #[]) := by rw [cell_of_row _ _ _ _ _ _ hg.out]; rfl
      have c2 : wr.cell? ⟨G, 2, none⟩ = some (.int .u64 11400714819323198485) := by rw [cell_of_row _ _ _ _ _ _ hg.out]; rfl
      go_wp2_with fail
      go_quiet ((go_at_call 23; refine Calls.quiet_of_same (wordMinus_lit (bAt n 1) 11400714819323198485#64 11400714819323198485 (by decide) _)))
      go_wp2
      exact ⟨⟨0, rfl, by decide, rfl, Lib.hid (below_drewN hw.out _), Lib.hid hg.out⟩, by simp [intOf]⟩
end Go.Proofs.Ytkmedgfoolbdaaa
