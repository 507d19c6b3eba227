/- Layer 6: what a number is mixed to: the code. -/
import Derived.Test.YtkmedgfoolbdaaaMixList
namespace Go.Proofs.Ytkmedgfoolbdaaa
set_option maxRecDepth 100000
open Go.RowKit

/-- what a number is behind so many steps -/
def zA1 (n : BitVec 64) : BitVec 64 := n + 11400714819323198485#64
def zA2 (n : BitVec 64) : BitVec 64 := foldW 30 (zA1 n)
def zA3 (n : BitVec 64) : BitVec 64 := zA2 n * 13787848793156543929#64
def zA4 (n : BitVec 64) : BitVec 64 := foldW 27 (zA3 n)
def zA5 (n : BitVec 64) : BitVec 64 := zA4 n * 10723151780598845931#64
def zA6 (n : BitVec 64) : BitVec 64 := foldW 31 (zA5 n)
def zAt (n : BitVec 64) (i : Nat) : BitVec 64 :=
  match i with
  | 0 => n | 1 => zA1 n | 2 => zA2 n | 3 => zA3 n | 4 => zA4 n | 5 => zA5 n | _ => zA6 n
theorem zAt_6 (n : BitVec 64) : zAt n 6 = ofW n := rfl

theorem idx_0 (W : World) : (Instr.index 37 (.agg stepsL) (.int .i64 0)).run Try.prog W = .ok (.agg #[.func (.func 22) #[] #[], .func (.func 23) #[] #[], .int .u64 11400714819323198485]) W := by kernel_rfl
theorem idx_1 (W : World) : (Instr.index 37 (.agg stepsL) (.int .i64 1)).run Try.prog W = .ok (.agg #[.func (.func 24) #[] #[], .func (.func 25) #[] #[], .int .u64 30]) W := by kernel_rfl
theorem idx_2 (W : World) : (Instr.index 37 (.agg stepsL) (.int .i64 2)).run Try.prog W = .ok (.agg #[.func (.func 26) #[] #[], .func (.func 27) #[] #[], .int .u64 13787848793156543929]) W := by kernel_rfl
theorem idx_3 (W : World) : (Instr.index 37 (.agg stepsL) (.int .i64 3)).run Try.prog W = .ok (.agg #[.func (.func 24) #[] #[], .func (.func 25) #[] #[], .int .u64 27]) W := by kernel_rfl
theorem idx_4 (W : World) : (Instr.index 37 (.agg stepsL) (.int .i64 4)).run Try.prog W = .ok (.agg #[.func (.func 26) #[] #[], .func (.func 27) #[] #[], .int .u64 10723151780598845931]) W := by kernel_rfl
theorem idx_5 (W : World) : (Instr.index 37 (.agg stepsL) (.int .i64 5)).run Try.prog W = .ok (.agg #[.func (.func 24) #[] #[], .func (.func 25) #[] #[], .int .u64 31]) W := by kernel_rfl
theorem wordPlus_lit (x y : BitVec 64) (l : Int) (h : wd y = l) (W : World) :
    Calls Try.prog 22 #[.int .u64 (wd x), .int .u64 l] W fun e W' => e = .returned (.int .u64 (wd (x + y))) ∧ W' = W := h ▸ wordPlus_any x y W
theorem wordTimes_lit (x y : BitVec 64) (l : Int) (h : wd y = l) (W : World) :
    Calls Try.prog 26 #[.int .u64 (wd x), .int .u64 l] W fun e W' => e = .returned (.int .u64 (wd (x * y))) ∧ W' = W := h ▸ wordTimes_any x y W

set_option maxHeartbeats 1600000 in
theorem mixOf_any (n : BitVec 64) (w : World) :
    Calls Try.prog 9 #[.int .u64 (wd n)] w fun e w' => e = .returned (.int .u64 (wd (ofW n))) ∧ Below w.heap.size w w' := by
  go_enter Try.func9, Try.ntmps9
  go_wp2_with fail
  refine (mixSteps_any _).mono ?_
  rintro e w1 ⟨rfl, b1⟩
  go_wp2_with fail
  have B1 := Lib.hid b1
  clear b1
  go_loopw [3, 8] (fun z k wr => ∃ i : Nat, k = .int .i64 i ∧ i ≤ 6 ∧ z = .int .u64 (wd (zAt n i)) ∧ Hid (Below w.heap.size w wr)) (fun _ k _ => 6 - (intOf k).toNat)
  case atStart => exact ⟨0, rfl, by decide, rfl, B1⟩
  case round =>
    obtain ⟨i, rfl, hi, rfl, hw⟩ := hrel
    have hsz := Lib.hid hw.out.size
    match i, hi with
    | 0, _ =>
      have I := idx_0
      go_wp2_with fail
      refine (wordPlus_lit (zAt n 0) 11400714819323198485#64 11400714819323198485 (by decide) _).mono ?_
      rintro e w2 ⟨rfl, rfl⟩
      go_wp2
      exact ⟨⟨1, rfl, by decide, rfl, by first | exact Lib.hid ((hw.out.alloc hsz.out _).setCell hsz.out _) | exact Lib.hid (hw.out.alloc hsz.out _)⟩, by simp [intOf]⟩
    | 1, _ =>
      have I := idx_1
      go_wp2_with fail
      refine (wordFold_any (zAt n 1) 30 (by decide) _).mono ?_
      rintro e w2 ⟨rfl, rfl⟩
      go_wp2
      exact ⟨⟨2, rfl, by decide, rfl, by first | exact Lib.hid ((hw.out.alloc hsz.out _).setCell hsz.out _) | exact Lib.hid (hw.out.alloc hsz.out _)⟩, by simp [intOf]⟩
    | 2, _ =>
      have I := idx_2
      go_wp2_with fail
      refine (wordTimes_lit (zAt n 2) 13787848793156543929#64 13787848793156543929 (by decide) _).mono ?_
      rintro e w2 ⟨rfl, rfl⟩
      go_wp2
      exact ⟨⟨3, rfl, by decide, rfl, by first | exact Lib.hid ((hw.out.alloc hsz.out _).setCell hsz.out _) | exact Lib.hid (hw.out.alloc hsz.out _)⟩, by simp [intOf]⟩
    | 3, _ =>
      have I := idx_3
      go_wp2_with fail
      refine (wordFold_any (zAt n 3) 27 (by decide) _).mono ?_
      rintro e w2 ⟨rfl, rfl⟩
      go_wp2
      exact ⟨⟨4, rfl, by decide, rfl, by first | exact Lib.hid ((hw.out.alloc hsz.out _).setCell hsz.out _) | exact Lib.hid (hw.out.alloc hsz.out _)⟩, by simp [intOf]⟩
    | 4, _ =>
      have I := idx_4
      go_wp2_with fail
      refine (wordTimes_lit (zAt n 4) 10723151780598845931#64 10723151780598845931 (by decide) _).mono ?_
      rintro e w2 ⟨rfl, rfl⟩
      go_wp2
      exact ⟨⟨5, rfl, by decide, rfl, by first | exact Lib.hid ((hw.out.alloc hsz.out _).setCell hsz.out _) | exact Lib.hid (hw.out.alloc hsz.out _)⟩, by simp [intOf]⟩
    | 5, _ =>
      have I := idx_5
      go_wp2_with fail
      refine (wordFold_any (zAt n 5) 31 (by decide) _).mono ?_
      rintro e w2 ⟨rfl, rfl⟩
      go_wp2
      exact ⟨⟨6, rfl, by decide, rfl, by first | exact Lib.hid ((hw.out.alloc hsz.out _).setCell hsz.out _) | exact Lib.hid (hw.out.alloc hsz.out _)⟩, by simp [intOf]⟩
    | 6, _ =>
      go_wp2
      go_ret
      exact ⟨rfl, hw.out⟩
end Go.Proofs.Ytkmedgfoolbdaaa
