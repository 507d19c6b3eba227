/- Layer 6: the steps back that loop: to unfold, and to divide. -/
import Derived.Test.YtkmedgfoolbdaaaMixStep
import Derived.Deep.LoopGhost
namespace Go.Proofs.Ytkmedgfoolbdaaa
set_option maxRecDepth 100000
open Go.RowKit

set_option maxHeartbeats 1600000 in
theorem wordUnfold_any (x : BitVec 64) (k : Nat) (h1 : 22 ≤ k) (h2 : k < 32) (w : World) :
    Calls Try.prog 25 #[.int .u64 (wd x), .int .u64 (k : Int)] w fun e w' => e = .returned (.int .u64 (wd (undoW k x))) ∧ w' = w := by
  obtain ⟨k1, hk1⟩ : ∃ k1, Hid (2 * k = k1) := ⟨_, rfl⟩
  obtain ⟨k2, hk2⟩ : ∃ k2, Hid (2 * k1 = k2) := ⟨_, rfl⟩
  have q1 : IntKind.u64.wrap ((k : Int) * 2) = (k1 : Int) := by rw [IntKind.wrap_u64]; have := hk1.out; omega
  have q2 : IntKind.u64.wrap ((k1 : Int) * 2) = (k2 : Int) := by rw [IntKind.wrap_u64]; have := hk1.out; have := hk2.out; omega
  have l0 : (k : Int) < 64 := by omega
  have l1 : (k1 : Int) < 64 := by have := hk1.out; omega
  have l2 : ¬ (k2 : Int) < 64 := by have := hk1.out; have := hk2.out; omega
  have m1 := Lib.hid (show k < k1 ∧ k1 < k2 ∧ k2 < 128 by have := hk1.out; have := hk2.out; omega)
  have F0 := Lib.hid (wordFold_any x k (by omega) w)
  have F1 := Lib.hid (wordFold_any (foldW k x) k1 (by omega) w)
  obtain ⟨z0, hz0⟩ : ∃ z0, Hid (wd x = z0) := ⟨_, rfl⟩
  obtain ⟨z1, hz1⟩ : ∃ z1, Hid (wd (foldW k x) = z1) := ⟨_, rfl⟩
  obtain ⟨z2, hz2⟩ : ∃ z2, Hid (wd (foldW k1 (foldW k x)) = z2) := ⟨_, rfl⟩
  rw [show undoW k x = foldW k1 (foldW k x) from by rw [← hk1.out]; rfl, hz2.out, hz0.out]
  rw [hz0.out, hz1.out] at F0
  rw [hz1.out, hz2.out] at F1
  clear h1 h2 hk1 hk2 hz0 hz1 hz2
  go_enter Try.func25, Try.ntmps25
  go_wp2_with fail
  go_loopw [0, 1] (fun z b wr => ((b = .int .u64 (k : Int) ∧ z = .int .u64 z0) ∨ (b = .int .u64 (k1 : Int) ∧ z = .int .u64 z1) ∨ (b = .int .u64 (k2 : Int) ∧ z = .int .u64 z2)) ∧ wr = w) (fun _ b _ => 128 - (intOf b).toNat)
  case atStart => exact ⟨Or.inl ⟨rfl, rfl⟩, by trivial⟩
  case round =>
    obtain ⟨hr, hw⟩ := hrel
    subst hw
    rcases hr with ⟨rfl, rfl⟩ | ⟨rfl, rfl⟩ | ⟨rfl, rfl⟩
    · go_wp2_with fail
      refine F0.out.mono ?_
      rintro e w1 ⟨rfl, rfl⟩
      go_wp2
      exact ⟨⟨Or.inr (Or.inl ⟨rfl, rfl⟩), by trivial⟩, by have := m1.out; simp [intOf]; omega⟩
    · go_wp2_with fail
      refine F1.out.mono ?_
      rintro e w1 ⟨rfl, rfl⟩
      go_wp2
      exact ⟨⟨Or.inr (Or.inr ⟨rfl, rfl⟩), by trivial⟩, by have := m1.out; simp [intOf]; omega⟩
    · go_wp2
      go_ret
      exact ⟨rfl, rfl⟩

/-- the inverse, turn by turn -/
def ivAt (y : BitVec 64) : Nat → BitVec 64
  | 0 => y
  | j + 1 => ivAt y j * (2#64 - ivAt y j * y)
theorem inv_one {a v y : BitVec 64} (h1 : a * y = 1#64) (h2 : v * y = 1#64) : a = v := by
  have := congrArg (v * ·) h1
  simp only [BitVec.mul_one] at this
  rw [← this, BitVec.mul_comm a y, ← BitVec.mul_assoc, h2, BitVec.one_mul]

set_option maxHeartbeats 1600000 in
theorem wordOver_any (x y v : BitVec 64) (h5 : ivAt y 5 * y = 1#64) (hv : v * y = 1#64) (w : World) :
    Calls Try.prog 27 #[.int .u64 (wd x), .int .u64 (wd y)] w fun e w' => e = .returned (.int .u64 (wd (x * v))) ∧ w' = w := by
  have H5 := Lib.hid h5; have HV := Lib.hid hv
  clear h5 hv
  go_enter Try.func27, Try.ntmps27
  go_wp2_with fail
  go_loopg [5] 5 (fun g a wr => ∃ j : Nat, j + g = 5 ∧ a = .int .u64 (wd (ivAt y j)) ∧ wr = w)
  case atStart => exact ⟨0, by omega, rfl, rfl⟩
  case round =>
    obtain ⟨j, hj, rfl, rfl⟩ := hrel
    obtain ⟨a, ha⟩ : ∃ a, Hid (ivAt y j = a) := ⟨_, rfl⟩
    obtain ⟨m, hm⟩ : ∃ m, Hid (a * y = m) := ⟨_, rfl⟩
    obtain ⟨d, hd⟩ : ∃ d, Hid (2#64 - m = d) := ⟨_, rfl⟩
    rw [ha.out]
    have q1 := wd_mul a y
    rw [hm.out] at q1
    have q2 := wd_sub 2#64 m
    rw [hd.out, show wd 2#64 = 2 from by decide] at q2
    have q3 := wd_mul a d
    have q4 := wd_mul x a
    have q0 := wd_mul y a
    by_cases h1 : m = 1#64
    · have e1 := Lib.hid (show x * a = x * v by rw [inv_one (hm.out.trans h1) HV.out])
      rw [show wd m = 1 from by rw [h1]; decide] at q1
      rw [e1.out] at q4
      clear q0 q2 q3 h1
      go_wp2
      go_ret
      exact ⟨rfl, rfl⟩
    · have hne := Lib.hid h1
      clear h1
      cases gk with
      | zero =>
        obtain rfl : j = 5 := by omega
        exact absurd (by rw [← hm.out, ← ha.out]; exact H5.out) hne.out
      | succ g =>
        have h2 : ¬ wd m = 1 := fun h => hne.out (wd_inj.1 (h.trans (by decide)))
        have hs := Lib.hid (show ivAt y (j + 1) = a * d by rw [← hd.out, ← hm.out, ← ha.out]; rfl)
        go_wp2
        go_roundg g
        case measure => omega
        case rel => exact ⟨j + 1, by omega, by rw [hs.out], by trivial⟩

/-- over the two numbers that Of multiplies by -/
theorem wordOver_1 (x : BitVec 64) (w : World) :
    Calls Try.prog 27 #[.int .u64 (wd x), .int .u64 13787848793156543929] w fun e w' => e = .returned (.int .u64 (wd (x * 10871156337175269513#64))) ∧ w' = w := by
  have := wordOver_any x 13787848793156543929#64 10871156337175269513#64 (by decide) (by decide) w
  rwa [show wd 13787848793156543929#64 = 13787848793156543929 from by decide] at this
theorem wordOver_2 (x : BitVec 64) (w : World) :
    Calls Try.prog 27 #[.int .u64 (wd x), .int .u64 10723151780598845931] w fun e w' => e = .returned (.int .u64 (wd (x * 3573116690164977347#64))) ∧ w' = w := by
  have := wordOver_any x 10723151780598845931#64 3573116690164977347#64 (by decide) (by decide) w
  rwa [show wd 10723151780598845931#64 = 10723151780598845931 from by decide] at this
end Go.Proofs.Ytkmedgfoolbdaaa
