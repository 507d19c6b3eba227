/- Layer 6: the steps of words, forth and back. -/
import Derived.Test.YtkmedgfoolbdaaaMem
import Derived.Test.YtkmedgfoolbdaaaMem2
import Derived.Test.YtkmedgfoolbdaaaMixMath
namespace Go.Proofs.Ytkmedgfoolbdaaa
set_option maxRecDepth 100000
open Go.RowKit

/-- what a step of two words comes to -/
def Tells2 (P : Program) (g : Nat) (f : BitVec 64 → BitVec 64 → BitVec 64) (x y : BitVec 64) : Prop :=
  ∀ (W : World), Calls P g #[.int .u64 (wd x), .int .u64 (wd y)] W fun e W' => e = .returned (.int .u64 (wd (f x y))) ∧ W' = W

theorem wordPlus_any (x y : BitVec 64) : Tells2 Try.prog 22 (· + ·) x y := by
  intro w
  have q := wd_add x y
  show Calls _ _ _ _ fun e W' => e = .returned (.int .u64 (wd (x + y))) ∧ W' = w
  go_enter Try.func22, Try.ntmps22
  go_wp2
  go_ret
  exact ⟨rfl, rfl⟩
theorem wordMinus_any (x y : BitVec 64) : Tells2 Try.prog 23 (· - ·) x y := by
  intro w
  have q := wd_sub x y
  show Calls _ _ _ _ fun e W' => e = .returned (.int .u64 (wd (x - y))) ∧ W' = w
  go_enter Try.func23, Try.ntmps23
  go_wp2
  go_ret
  exact ⟨rfl, rfl⟩
theorem wordTimes_any (x y : BitVec 64) : Tells2 Try.prog 26 (· * ·) x y := by
  intro w
  have q := wd_mul x y
  show Calls _ _ _ _ fun e W' => e = .returned (.int .u64 (wd (x * y))) ∧ W' = w
  go_enter Try.func26, Try.ntmps26
  go_wp2
  go_ret
  exact ⟨rfl, rfl⟩
theorem wordFold_any (x : BitVec 64) (k : Nat) (hk : k < 64) (w : World) :
    Calls Try.prog 24 #[.int .u64 (wd x), .int .u64 (k : Int)] w fun e w' => e = .returned (.int .u64 (wd (foldW k x))) ∧ w' = w := by
  have q1 := wd_shr x k
  have q2 := wd_xor x (x >>> k)
  have q3 : (k : Int) ≤ 64 := by omega
  go_enter Try.func24, Try.ntmps24
  go_wp2
  go_ret
  exact ⟨rfl, rfl⟩
theorem refMixXor_any (x y : BitVec 64) (w : World) :
    Calls Try.prog 18 #[.int .u64 (wd x), .int .u64 (wd y)] w fun e w' => e = .returned (.int .u64 (wd (x ^^^ y))) ∧ w' = w := by
  have q1 := wd_andNot x y
  have q2 := wd_andNot y x
  have q3 := wd_or (x &&& ~~~y) (y &&& ~~~x)
  rw [xor_is] at q3
  go_enter Try.func18, Try.ntmps18
  go_wp2
  go_ret
  exact ⟨rfl, rfl⟩
end Go.Proofs.Ytkmedgfoolbdaaa
