/- Layer 6: the document's answers: Of, and back bit by bit. -/
import Derived.Test.YtkmedgfoolbdaaaMixStep
namespace Go.Proofs.Ytkmedgfoolbdaaa
set_option maxRecDepth 100000
open Go.RowKit

theorem wrapI_is {z : Int} (h : -9223372036854775808 ≤ z ∧ z ≤ 9223372036854775807) : IntKind.i64.wrap z = z := by
  simp [IntKind.wrap, IntKind.bits, IntKind.signed]; omega
/-- a number divided by a power of two -/
theorem wd_quo (x : BitVec 64) (k : Nat) (m : Int) (h : (2 : Int) ^ k = m) (h0 : 1 < m) : IntKind.u64.wrap ((wd x).tdiv m) = wd (x >>> k) := by
  rw [← wd_shr, h, IntKind.wrap_u64, Int.tdiv_eq_ediv_of_nonneg (wd_lo x)]
  have := wd_lo x; have := wd_hi x
  have h1 : 0 ≤ wd x / m := Int.ediv_nonneg (wd_lo x) (by omega)
  have h2 : wd x / m ≤ wd x := Int.ediv_le_self _ (wd_lo x)
  omega
theorem wd_addl (x : BitVec 64) (c : BitVec 64) (l : Int) (h : wd c = l) : IntKind.u64.wrap (wd x + l) = wd (x + c) := h ▸ wd_add x c
theorem wd_subl (x : BitVec 64) (c : BitVec 64) (l : Int) (h : wd c = l) : IntKind.u64.wrap (wd x - l) = wd (x - c) := h ▸ wd_sub x c
theorem wd_mull (x : BitVec 64) (c : BitVec 64) (l : Int) (h : wd c = l) : IntKind.u64.wrap (wd x * l) = wd (x * c) := h ▸ wd_mul x c
theorem wd_andl (x : BitVec 64) (c : BitVec 64) (l : Int) (h : wd c = l) : bits .and .u64 (wd x) l = wd (x &&& c) := h ▸ wd_and x c

/-- xor with itself, shifted: the document's -/
theorem refMixFold_any (x : BitVec 64) (k : Nat) (w : World) :
    Calls Try.prog 18 #[.int .u64 (wd x), .int .u64 (wd (x >>> k))] w fun e w' => e = .returned (.int .u64 (wd (foldW k x))) ∧ w' = w := refMixXor_any x (x >>> k) w

theorem refMixOf_any (n : BitVec 64) (w : World) :
    Calls Try.prog 10 #[.int .u64 (wd n)] w fun e w' => e = .returned (.int .u64 (wd (ofW n))) ∧ w' = w := by
  obtain ⟨r, hr⟩ : ∃ r, Hid (ofW n = r) := ⟨_, rfl⟩
  rw [hr.out]
  obtain ⟨a, ha⟩ : ∃ a, Hid (n + 11400714819323198485#64 = a) := ⟨_, rfl⟩
  obtain ⟨b, hb⟩ : ∃ b, Hid (foldW 30 a = b) := ⟨_, rfl⟩
  obtain ⟨c, hc⟩ : ∃ c, Hid (b * 13787848793156543929#64 = c) := ⟨_, rfl⟩
  obtain ⟨d, hd⟩ : ∃ d, Hid (foldW 27 c = d) := ⟨_, rfl⟩
  obtain ⟨f, hf⟩ : ∃ f, Hid (d * 10723151780598845931#64 = f) := ⟨_, rfl⟩
  have hr' := Lib.hid (show foldW 31 f = r by rw [← hr.out, ← hf.out, ← hd.out, ← hc.out, ← hb.out, ← ha.out]; rfl)
  have q1 := wd_addl n 11400714819323198485#64 11400714819323198485 (by decide)
  have q2 := wd_quo a 30 1073741824 (by decide) (by decide)
  have q3 := wd_mull b 13787848793156543929#64 13787848793156543929 (by decide)
  have q4 := wd_quo c 27 134217728 (by decide) (by decide)
  have q5 := wd_mull d 10723151780598845931#64 10723151780598845931 (by decide)
  have q6 := wd_quo f 31 2147483648 (by decide) (by decide)
  have F1 := Lib.hid (refMixFold_any a 30 w)
  have F2 := Lib.hid (refMixFold_any c 27 w)
  have F3 := Lib.hid (refMixFold_any f 31 w)
  rw [ha.out] at q1
  rw [hc.out] at q3
  rw [hf.out] at q5
  rw [hb.out] at F1
  rw [hd.out] at F2
  rw [hr'.out] at F3
  go_enter Try.func10, Try.ntmps10
  go_wp2_with fail
  refine F1.out.mono ?_
  rintro e w1 ⟨rfl, rfl⟩
  go_wp2_with fail
  refine F2.out.mono ?_
  rintro e w2 ⟨rfl, rfl⟩
  go_wp2_with fail
  refine F3.out.mono ?_
  rintro e w3 ⟨rfl, rfl⟩
  go_wp2
  go_ret
  exact ⟨rfl, rfl⟩

set_option maxHeartbeats 1600000 in
theorem refMixUndo_any (z : BitVec 64) (k : Nat) (h1 : 16 ≤ k) (h2 : k < 64) (w : World) :
    Calls Try.prog 19 #[.int .u64 (wd z), .int .u64 (k : Int)] w fun e w' => e = .returned (.int .u64 (wd (undoW k z))) ∧ w' = w := by
  obtain ⟨X, hX⟩ : ∃ X, Hid (undoW k z = X) := ⟨_, rfl⟩
  have hz := Lib.hid (show foldW k X = z by rw [← hX.out]; exact fold_undo k h1 z)
  rw [hX.out]
  have hk := Lib.hid (And.intro h1 h2)
  have k0 : IntKind.i64.wrap (k : Int) = (k : Int) := wrapI_is (by omega)
  clear h1 h2 hX
  go_enter Try.func19, Try.ntmps19
  go_wp2_with fail
  go_loopw [5, 6] (fun x b wr => ((∃ j : Nat, b = .int .i64 j ∧ j < 64 ∧ x = .int .u64 (wd (hiW (j + 1) X))) ∨ (b = .int .i64 (-1) ∧ x = .int .u64 (wd X))) ∧ wr = w) (fun _ b _ => (intOf b + 1).toNat)
  case atStart => exact ⟨Or.inl ⟨63, rfl, by decide, by rw [hi_64]; rfl⟩, by trivial⟩
  case round =>
    obtain ⟨hr, hw⟩ := hrel
    subst hw
    rcases hr with ⟨j, rfl, hj, rfl⟩ | ⟨rfl, rfl⟩
    · obtain ⟨s, hs⟩ : ∃ s, Hid (j + k = s) := ⟨_, rfl⟩
      have q1 : IntKind.i64.wrap ((j : Int) + (k : Int)) = (s : Int) := by rw [← hs.out]; rw [wrapI_is (by have := hk.out; omega)]; simp
      have j0 : (0 : Int) ≤ (j : Int) := by omega
      have j1 : (j : Int) ≤ 64 := by omega
      have q2 : IntKind.i64.wrap ((j : Int) - 1) = (j : Int) - 1 := wrapI_is (by omega)
      have p1 := wd_shr z j
      have p2 := wd_andl (z >>> j) 1#64 1 (by decide)
      obtain ⟨o, ho⟩ : ∃ o, Hid (X >>> j &&& 1#64 = o) := ⟨_, rfl⟩
      have p4 := wd_shl o j
      have p5 := wd_or (hiW (j + 1) X) (o <<< j)
      rw [show hiW (j + 1) X ||| o <<< j = hiW j X from by rw [← ho.out]; exact hi_step j hj X] at p5
      have hend := Lib.hid (show (∃ i : Nat, (Value.int .i64 ((j : Int) - 1)) = .int .i64 (i : Int) ∧ i < 64 ∧ Value.int .u64 (wd (hiW j X)) = .int .u64 (wd (hiW (i + 1) X))) ∨ ((Value.int .i64 ((j : Int) - 1)) = .int .i64 (-1) ∧ Value.int .u64 (wd (hiW j X)) = .int .u64 (wd X)) by
        cases j with
        | zero => exact Or.inr ⟨rfl, by rw [hi_0]⟩
        | succ i => exact Or.inl ⟨i, by congr 1; omega, by omega, rfl⟩)
      by_cases hlt : s < 64
      · have l0 : (s : Int) < 64 := by omega
        have l1 : (s : Int) ≤ 64 := by omega
        have r1 := wd_shr (hiW (j + 1) X) s
        have r2 := wd_andl (hiW (j + 1) X >>> s) 1#64 1 (by decide)
        have F := Lib.hid (refMixXor_any (z >>> j &&& 1#64) (hiW (j + 1) X >>> s &&& 1#64) wr)
        rw [show (z >>> j &&& 1#64) ^^^ (hiW (j + 1) X >>> s &&& 1#64) = o from by rw [← ho.out, ← hs.out, up_bit j k (by have := hk.out; omega) X, ← hz.out]; exact one_of k j X] at F
        go_wp2_with fail
        refine F.out.mono ?_
        rintro e w1 ⟨rfl, rfl⟩
        go_wp2
        exact ⟨⟨hend.out, by trivial⟩, by simp [intOf]⟩
      · have l0 : ¬ (s : Int) < 64 := by omega
        have F := Lib.hid (refMixXor_any (z >>> j &&& 1#64) 0#64 wr)
        rw [show (z >>> j &&& 1#64) ^^^ 0#64 = o from by rw [← ho.out, ← hz.out, ← up_none j k (by have := hs.out; omega) X]; exact one_of k j X, show wd 0#64 = 0 from rfl] at F
        go_wp2_with fail
        refine F.out.mono ?_
        rintro e w1 ⟨rfl, rfl⟩
        go_wp2
        exact ⟨⟨hend.out, by trivial⟩, by simp [intOf]⟩
    · go_wp2
      go_ret
      exact ⟨rfl, rfl⟩

theorem refMixBack_any (n : BitVec 64) (w : World) :
    Calls Try.prog 12 #[.int .u64 (wd n)] w fun e w' => e = .returned (.int .u64 (wd (backW n))) ∧ w' = w := by
  obtain ⟨r, hr⟩ : ∃ r, Hid (backW n = r) := ⟨_, rfl⟩
  rw [hr.out]
  obtain ⟨a, ha⟩ : ∃ a, Hid (undoW 31 n = a) := ⟨_, rfl⟩
  obtain ⟨b, hb⟩ : ∃ b, Hid (a * 3573116690164977347#64 = b) := ⟨_, rfl⟩
  obtain ⟨c, hc⟩ : ∃ c, Hid (undoW 27 b = c) := ⟨_, rfl⟩
  obtain ⟨d, hd⟩ : ∃ d, Hid (c * 10871156337175269513#64 = d) := ⟨_, rfl⟩
  obtain ⟨f, hf⟩ : ∃ f, Hid (undoW 30 d = f) := ⟨_, rfl⟩
  have hr' := Lib.hid (show f - 11400714819323198485#64 = r by rw [← hr.out, ← hf.out, ← hd.out, ← hc.out, ← hb.out, ← ha.out]; rfl)
  have q1 := wd_mull a 3573116690164977347#64 3573116690164977347 (by decide)
  have q2 := wd_mull c 10871156337175269513#64 10871156337175269513 (by decide)
  have q3 := wd_subl f 11400714819323198485#64 11400714819323198485 (by decide)
  have F1 := Lib.hid (refMixUndo_any n 31 (by decide) (by decide) w)
  have F2 := Lib.hid (refMixUndo_any b 27 (by decide) (by decide) w)
  have F3 := Lib.hid (refMixUndo_any d 30 (by decide) (by decide) w)
  rw [hb.out] at q1
  rw [hd.out] at q2
  rw [hr'.out] at q3
  rw [ha.out] at F1
  rw [hc.out] at F2
  rw [hf.out] at F3
  go_enter Try.func12, Try.ntmps12
  go_wp2_with fail
  refine F1.out.mono ?_
  rintro e w1 ⟨rfl, rfl⟩
  go_wp2_with fail
  refine F2.out.mono ?_
  rintro e w2 ⟨rfl, rfl⟩
  go_wp2_with fail
  refine F3.out.mono ?_
  rintro e w3 ⟨rfl, rfl⟩
  go_wp2
  go_ret
  exact ⟨rfl, rfl⟩
end Go.Proofs.Ytkmedgfoolbdaaa
