/- Bits of numbers: masks of seven bits, and bits that don't meet. -/
import Derived.Laws.Bits128
import Derived.Laws.BitsAllLaws
namespace Go.Proofs.Ytijhcoidhlmecaa

theorem u64_and127 (z : Int) (h0 : 0 ≤ z) (h1 : z ≤ 18446744073709551615) : bits .and .u64 z 127 = z % 128 := by
  rw [u64_and z 127 h0 (by omega) (by omega) (by omega)]
  have := Nat.and_two_pow_sub_one_eq_mod z.toNat 7
  simp only [show (2 : Nat) ^ 7 - 1 = 127 from rfl, show (2 : Nat) ^ 7 = 128 from rfl] at this
  rw [show (127 : Int).toNat = 127 from rfl, this]
  omega
theorem u8_and127 (z : Int) (h0 : 0 ≤ z) (h1 : z ≤ 255) : bits .and .u8 z 127 = z % 128 := by
  rw [u8_and z 127 h0 (by omega) (by omega) (by omega)]
  have := Nat.and_two_pow_sub_one_eq_mod z.toNat 7
  simp only [show (2 : Nat) ^ 7 - 1 = 127 from rfl, show (2 : Nat) ^ 7 = 128 from rfl] at this
  rw [show (127 : Int).toNat = 127 from rfl, this]
  omega
/-- bits above s, and bits below it -/
theorem u64_or_above (a b : Int) (s : Nat) (h0 : 0 ≤ a) (h1 : a < 2 ^ s) (h2 : 0 ≤ b) (h3 : a + b * 2 ^ s < 18446744073709551616) : bits .or .u64 a (b * 2 ^ s) = a + b * 2 ^ s := by
  obtain ⟨a, rfl⟩ := Int.eq_ofNat_of_zero_le h0
  obtain ⟨b, rfl⟩ := Int.eq_ofNat_of_zero_le h2
  have e : ((b : Int) * 2 ^ s) = ((b * 2 ^ s : Nat) : Int) := by simp
  have hp : (a : Int) < ((2 ^ s : Nat) : Int) := by simpa using h1
  rw [e] at h3 ⊢
  have hl : a < 2 ^ s := by omega
  have hs : b * 2 ^ s < 18446744073709551616 := by omega
  have ha : a < 18446744073709551616 := by omega
  rw [u64_or_nat a (b * 2 ^ s) ha hs]
  have := Nat.two_pow_add_eq_or_of_lt hl b
  rw [Nat.or_comm, Nat.mul_comm b, ← this]
  omega
end Go.Proofs.Ytijhcoidhlmecaa
