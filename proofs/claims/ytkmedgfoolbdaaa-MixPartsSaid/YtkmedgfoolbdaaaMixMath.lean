/- Layer 6: numbers of 64 bits, what they are mixed to, and back. -/
import Derived.WalkKit
import Derived.Laws.Bits64b
import Derived.Laws.BitsAllLaws
namespace Go.Proofs.Ytkmedgfoolbdaaa

/-- a word as the number that it is -/
def wd (x : BitVec 64) : Int := (x.toNat : Int)

theorem wd_lo (x : BitVec 64) : 0 ≤ wd x := Int.natCast_nonneg _
theorem wd_hi (x : BitVec 64) : wd x ≤ 18446744073709551615 := by have := x.isLt; unfold wd; omega
theorem wd_toNat (x : BitVec 64) : (wd x).toNat = x.toNat := by simp [wd]
theorem wd_inj {x y : BitVec 64} : wd x = wd y ↔ x = y := by
  constructor
  · intro h; apply BitVec.eq_of_toNat_eq; unfold wd at h; omega
  · rintro rfl; rfl
theorem wd_of (z : Int) (h0 : 0 ≤ z) (h1 : z ≤ 18446744073709551615) : z = wd (BitVec.ofNat 64 z.toNat) := by
  unfold wd
  rw [BitVec.toNat_ofNat, Nat.mod_eq_of_lt (by omega)]
  omega
theorem wd_ofInt (x : BitVec 64) : BitVec.ofInt 64 (wd x) = x := by
  unfold wd
  rw [BitVec.ofInt_natCast]; simp
theorem wd_wrap (x : BitVec 64) : IntKind.u64.wrap ((x.toNat : Nat) : Int) = wd x := by
  have := x.isLt
  rw [IntKind.wrap_u64]; unfold wd; omega
theorem wd_add (x y : BitVec 64) : IntKind.u64.wrap (wd x + wd y) = wd (x + y) := by
  rw [IntKind.wrap_u64]; unfold wd; rw [BitVec.toNat_add]; omega
theorem wd_sub (x y : BitVec 64) : IntKind.u64.wrap (wd x - wd y) = wd (x - y) := by
  have := x.isLt; have := y.isLt
  rw [IntKind.wrap_u64]; unfold wd; rw [BitVec.toNat_sub]; omega
theorem wd_mul (x y : BitVec 64) : IntKind.u64.wrap (wd x * wd y) = wd (x * y) := by
  rw [IntKind.wrap_u64]; unfold wd; rw [BitVec.toNat_mul]
  rw [← Int.natCast_mul]; omega
theorem wd_xor (x y : BitVec 64) : bits .xor .u64 (wd x) (wd y) = wd (x ^^^ y) := by
  show IntKind.u64.wrap ((BitVec.ofInt 64 (wd x) ^^^ BitVec.ofInt 64 (wd y)).toNat : Int) = _
  rw [wd_ofInt, wd_ofInt, wd_wrap]
theorem wd_or (x y : BitVec 64) : bits .or .u64 (wd x) (wd y) = wd (x ||| y) := by
  show IntKind.u64.wrap ((BitVec.ofInt 64 (wd x) ||| BitVec.ofInt 64 (wd y)).toNat : Int) = _
  rw [wd_ofInt, wd_ofInt, wd_wrap]
theorem wd_and (x y : BitVec 64) : bits .and .u64 (wd x) (wd y) = wd (x &&& y) := by
  show IntKind.u64.wrap ((BitVec.ofInt 64 (wd x) &&& BitVec.ofInt 64 (wd y)).toNat : Int) = _
  rw [wd_ofInt, wd_ofInt, wd_wrap]
theorem wd_andNot (x y : BitVec 64) : bits .andNot .u64 (wd x) (wd y) = wd (x &&& ~~~y) := by
  show IntKind.u64.wrap ((BitVec.ofInt 64 (wd x) &&& ~~~BitVec.ofInt 64 (wd y)).toNat : Int) = _
  rw [wd_ofInt, wd_ofInt, wd_wrap]
theorem xor_is (x y : BitVec 64) : (x &&& ~~~y) ||| (y &&& ~~~x) = x ^^^ y := by
  apply BitVec.eq_of_getLsbD_eq
  intro i hi
  simp only [BitVec.getLsbD_or, BitVec.getLsbD_and, BitVec.getLsbD_not, BitVec.getLsbD_xor, hi, decide_true, Bool.true_and]
  cases x.getLsbD i <;> cases y.getLsbD i <;> rfl
theorem wd_shr (x : BitVec 64) (k : Nat) : wd x / 2 ^ k = wd (x >>> k) := by
  unfold wd
  rw [BitVec.toNat_ushiftRight, Nat.shiftRight_eq_div_pow]
  simp
theorem wd_shl (x : BitVec 64) (k : Nat) : IntKind.u64.wrap (wd x * 2 ^ k) = wd (x <<< k) := by
  rw [IntKind.wrap_u64]; unfold wd
  rw [BitVec.toNat_shiftLeft, Nat.shiftLeft_eq]
  simp

/-- a word xor itself, shifted -/
def foldW (k : Nat) (x : BitVec 64) : BitVec 64 := x ^^^ x >>> k
/-- and back, for numbers from 16 to 31 (two turns are enough) -/
def undoW (k : Nat) (x : BitVec 64) : BitVec 64 := foldW (2 * k) (foldW k x)

theorem foldW_bit (k : Nat) (x : BitVec 64) (i : Nat) : (foldW k x).getLsbD i = (x.getLsbD i ^^ x.getLsbD (k + i)) := by
  unfold foldW; rw [BitVec.getLsbD_xor, BitVec.getLsbD_ushiftRight]
theorem undo_fold (k : Nat) (hk : 16 ≤ k) (x : BitVec 64) : undoW k (foldW k x) = x := by
  apply BitVec.eq_of_getLsbD_eq
  intro i hi
  unfold undoW
  simp only [foldW_bit]
  have e1 : x.getLsbD (k + (k + (2 * k + i))) = false := BitVec.getLsbD_of_ge _ _ (by omega)
  have e2 : k + (k + i) = 2 * k + i := by omega
  have e3 : k + (2 * k + i) = 2 * k + (k + i) := by omega
  rw [e1, e2, e3]
  cases x.getLsbD i <;> cases x.getLsbD (k + i) <;> cases x.getLsbD (2 * k + i) <;> cases x.getLsbD (2 * k + (k + i)) <;> rfl
theorem fold_undo (k : Nat) (hk : 16 ≤ k) (x : BitVec 64) : foldW k (undoW k x) = x := by
  apply BitVec.eq_of_getLsbD_eq
  intro i hi
  unfold undoW
  simp only [foldW_bit]
  have e1 : x.getLsbD (k + (2 * k + (k + i))) = false := BitVec.getLsbD_of_ge _ _ (by omega)
  have e2 : k + (k + i) = 2 * k + i := by omega
  have e3 : k + (2 * k + i) = 2 * k + (k + i) := by omega
  rw [e1, e2, e3]
  cases x.getLsbD i <;> cases x.getLsbD (k + i) <;> cases x.getLsbD (2 * k + i) <;> cases x.getLsbD (2 * k + (k + i)) <;> rfl

/-- P6.1 -/
def ofW (n : BitVec 64) : BitVec 64 := foldW 31 (foldW 27 (foldW 30 (n + 11400714819323198485#64) * 13787848793156543929#64) * 10723151780598845931#64)
def backW (n : BitVec 64) : BitVec 64 := undoW 30 (undoW 27 (undoW 31 n * 3573116690164977347#64) * 10871156337175269513#64) - 11400714819323198485#64

theorem mul1 (x : BitVec 64) : x * 13787848793156543929#64 * 10871156337175269513#64 = x := by
  rw [BitVec.mul_assoc, show 13787848793156543929#64 * 10871156337175269513#64 = 1#64 from by decide, BitVec.mul_one]
theorem mul2 (x : BitVec 64) : x * 10723151780598845931#64 * 3573116690164977347#64 = x := by
  rw [BitVec.mul_assoc, show 10723151780598845931#64 * 3573116690164977347#64 = 1#64 from by decide, BitVec.mul_one]
theorem mul1' (x : BitVec 64) : x * 10871156337175269513#64 * 13787848793156543929#64 = x := by
  rw [BitVec.mul_assoc, show 10871156337175269513#64 * 13787848793156543929#64 = 1#64 from by decide, BitVec.mul_one]
theorem mul2' (x : BitVec 64) : x * 3573116690164977347#64 * 10723151780598845931#64 = x := by
  rw [BitVec.mul_assoc, show 3573116690164977347#64 * 10723151780598845931#64 = 1#64 from by decide, BitVec.mul_one]
theorem back_of (n : BitVec 64) : backW (ofW n) = n := by
  unfold backW ofW
  rw [undo_fold 31 (by decide), mul2, undo_fold 27 (by decide), mul1, undo_fold 30 (by decide), BitVec.add_sub_cancel]
theorem of_back (n : BitVec 64) : ofW (backW n) = n := by
  unfold backW ofW
  rw [BitVec.sub_add_cancel, fold_undo 30 (by decide), mul1', fold_undo 27 (by decide), mul2', fold_undo 31 (by decide)]
theorem of_inj {a b : BitVec 64} : ofW a = ofW b ↔ a = b := by
  constructor
  · intro h; rw [← back_of a, h, back_of]
  · rintro rfl; rfl

/-- P6.2 -/
def byteW (x : Int) : BitVec 64 := BitVec.ofNat 64 x.toNat
def thenW (c : BitVec 64) (l : List Int) : BitVec 64 := l.foldl (fun c x => ofW (c ^^^ byteW x)) c
def sumW (l : List Int) : BitVec 64 := ofW (thenW 0#64 l ^^^ BitVec.ofNat 64 l.length)

theorem then_append (c : BitVec 64) (a b : List Int) : thenW c (a ++ b) = thenW (thenW c a) b := by
  unfold thenW; rw [List.foldl_append]
theorem xor_cancel {a b c : BitVec 64} : a ^^^ c = b ^^^ c ↔ a = b := by
  constructor
  · intro h
    have := congrArg (· ^^^ c) h
    simpa [BitVec.xor_assoc] using this
  · rintro rfl; rfl
theorem xor_cancel' {a b c : BitVec 64} : c ^^^ a = c ^^^ b ↔ a = b := by
  rw [BitVec.xor_comm c a, BitVec.xor_comm c b]; exact xor_cancel
theorem then_inj (l : List Int) : ∀ {c d : BitVec 64}, thenW c l = thenW d l ↔ c = d := by
  induction l with
  | nil => intro c d; exact Iff.rfl
  | cons x l ih =>
    intro c d
    show thenW (ofW (c ^^^ byteW x)) l = thenW (ofW (d ^^^ byteW x)) l ↔ _
    rw [ih, of_inj, xor_cancel]
theorem byte_inj {x y : Int} (hx : 0 ≤ x) (hx1 : x ≤ 255) (hy : 0 ≤ y) (hy1 : y ≤ 255) : byteW x = byteW y ↔ x = y := by
  constructor
  · intro h
    have := congrArg BitVec.toNat h
    unfold byteW at this
    rw [BitVec.toNat_ofNat, BitVec.toNat_ofNat, Nat.mod_eq_of_lt (by omega), Nat.mod_eq_of_lt (by omega)] at this
    omega
  · rintro rfl; rfl
theorem sum_other (a b : List Int) {x y : Int} (hx : 0 ≤ x) (hx1 : x ≤ 255) (hy : 0 ≤ y) (hy1 : y ≤ 255) : sumW (a ++ [x] ++ b) = sumW (a ++ [y] ++ b) ↔ x = y := by
  unfold sumW
  rw [of_inj, show (a ++ [x] ++ b).length = (a ++ [y] ++ b).length from by simp, xor_cancel]
  rw [then_append, then_append, then_append, then_append, then_inj]
  show ofW (_ ^^^ byteW x) = ofW (_ ^^^ byteW y) ↔ _
  rw [of_inj, xor_cancel', byte_inj hx hx1 hy hy1]
theorem back_sum (a b : List Int) : backW (sumW (a ++ b)) = thenW (thenW 0#64 a) b ^^^ BitVec.ofNat 64 (a ++ b).length := by
  unfold sumW; rw [back_of, then_append]

theorem wd_byte (x : Int) (h0 : 0 ≤ x) (h1 : x ≤ 18446744073709551615) : wd (byteW x) = x := (wd_of x h0 h1).symm

theorem of_0 : ofW 0#64 = 16294208416658607535#64 := by decide
theorem of_1 : ofW 1#64 = 10451216379200822465#64 := by decide
theorem back_0 : backW 16294208416658607535#64 = 0#64 := by decide
theorem sum_a : sumW [97] = 1303865553363498507#64 := by decide
theorem sum_ab : sumW [97, 98] = 14337718687949505752#64 := by decide

/-- the bits from j on -/
def hiW (j : Nat) (x : BitVec 64) : BitVec 64 := (x >>> j) <<< j
theorem hiW_bit (j : Nat) (x : BitVec 64) (i : Nat) : (hiW j x).getLsbD i = (decide (j ≤ i) && x.getLsbD i) := by
  unfold hiW
  rw [BitVec.getLsbD_shiftLeft, BitVec.getLsbD_ushiftRight]
  by_cases h : j ≤ i
  · have : j + (i - j) = i := by omega
    rw [this]
    by_cases hi : i < 64
    · simp [h, hi]
    · simp [BitVec.getLsbD_of_ge x i (by omega)]
  · simp [h]
theorem hi_64 (x : BitVec 64) : hiW 64 x = 0#64 := by
  apply BitVec.eq_of_getLsbD_eq; intro i hi; rw [hiW_bit]; simp; omega
theorem hi_0 (x : BitVec 64) : hiW 0 x = x := by
  apply BitVec.eq_of_getLsbD_eq; intro i hi; rw [hiW_bit]; simp
theorem one_bit (i : Nat) : (1#64).getLsbD i = decide (i = 0) := by
  rw [show (1#64) = BitVec.ofNat 64 1 from rfl, BitVec.getLsbD_ofNat]
  by_cases h : i = 0
  · subst h; decide
  · have : Nat.testBit 1 i = false := by
      cases e : Nat.testBit 1 i with
      | false => rfl
      | true => exact absurd (Nat.testBit_one_eq_true_iff_self_eq_zero.1 e) h
    rw [this]; simp [h]
theorem bit_of (x : BitVec 64) (j i : Nat) : (x >>> j &&& 1#64).getLsbD i = (decide (i = 0) && x.getLsbD j) := by
  rw [BitVec.getLsbD_and, BitVec.getLsbD_ushiftRight, one_bit]
  by_cases h : i = 0
  · subst h; simp
  · simp [h]
theorem hi_step (j : Nat) (hj : j < 64) (x : BitVec 64) : hiW (j + 1) x ||| (x >>> j &&& 1#64) <<< j = hiW j x := by
  apply BitVec.eq_of_getLsbD_eq
  intro i hi
  rw [BitVec.getLsbD_or, hiW_bit, hiW_bit, BitVec.getLsbD_shiftLeft, bit_of]
  by_cases h1 : i = j
  · subst h1; simp [hi]
  · by_cases h2 : j + 1 ≤ i
    · have : ¬ i - j = 0 := by omega
      simp [h2, this, show j ≤ i from by omega]
    · have : i < j := by omega
      simp [show ¬ j + 1 ≤ i from h2, this, show ¬ j ≤ i from by omega]
theorem up_bit (j k : Nat) (hk : 1 ≤ k) (x : BitVec 64) : hiW (j + 1) x >>> (j + k) &&& 1#64 = x >>> (j + k) &&& 1#64 := by
  apply BitVec.eq_of_getLsbD_eq
  intro i hi
  rw [bit_of, bit_of, hiW_bit]
  simp [show j + 1 ≤ j + k from by omega]
theorem up_none (j k : Nat) (h : 64 ≤ j + k) (x : BitVec 64) : x >>> (j + k) &&& 1#64 = 0#64 := by
  apply BitVec.eq_of_getLsbD_eq
  intro i hi
  rw [bit_of, BitVec.getLsbD_of_ge x _ h]; simp
theorem one_of (k j : Nat) (x : BitVec 64) : (foldW k x >>> j &&& 1#64) ^^^ (x >>> (j + k) &&& 1#64) = x >>> j &&& 1#64 := by
  apply BitVec.eq_of_getLsbD_eq
  intro i hi
  rw [BitVec.getLsbD_xor, bit_of, bit_of, bit_of, foldW_bit, Nat.add_comm k j]
  cases decide (i = 0) <;> cases x.getLsbD j <;> cases x.getLsbD (j + k) <;> rfl
end Go.Proofs.Ytkmedgfoolbdaaa
