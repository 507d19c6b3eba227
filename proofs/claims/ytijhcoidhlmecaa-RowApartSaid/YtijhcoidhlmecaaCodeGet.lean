/- The number with which bytes begin, as package code gets it. -/
import Derived.Test.YtijhcoidhlmecaaRows
import Derived.Test.YtijhcoidhlmecaaMem
import Derived.Test.YtijhcoidhlmecaaCodeNum
import Derived.Test.YtijhcoidhlmecaaBits
namespace Go.Proofs.Ytijhcoidhlmecaa
set_option maxRecDepth 100000
open Go.RowKit

/-- what Get hands back -/
def getV (r : Option (Int × Nat)) : Value :=
  match r with
  | some (n, k) => .tuple #[.int .i64 n, .int .i64 k, .int .i64 0]
  | none => .tuple #[.int .i64 0, .int .i64 0, .int .i64 3]

theorem pow128 (k : Nat) : (2 : Int) ^ (7 * k) = 128 ^ k := by rw [Int.pow_mul]; rfl

theorem pow_le128 {k m : Nat} (h : k ≤ m) : (128 : Int) ^ k ≤ 128 ^ m := by
  have := Nat.pow_le_pow_right (n := 128) (by omega) h
  exact_mod_cast this

theorem acc_top {k : Nat} {acc y : Int} (hk : k ≤ 9) (h1 : acc < 128 ^ k) (hy : 0 ≤ y) (hy2 : y ≤ 127) (h9 : k = 9 → y ≤ 1) : acc + y * 128 ^ k < 18446744073709551616 ∧ y * 128 ^ k < 18446744073709551616 := by
  have hp := pow_pos128 k
  by_cases h : k = 9
  · subst h
    have hy1 := h9 rfl
    simp only [show (128 : Int) ^ 9 = 9223372036854775808 from by decide] at *
    omega
  · have hle : (128 : Int) ^ k ≤ 128 ^ 8 := pow_le128 (by omega)
    simp only [show (128 : Int) ^ 8 = 72057594037927936 from by decide] at hle
    have h2 : y * 128 ^ k ≤ 127 * 128 ^ k := Int.mul_le_mul_of_nonneg_right hy2 (by omega)
    omega

theorem join_bits (k : Nat) (acc x : Int) (hk : k ≤ 9) (h0 : 0 ≤ acc) (h1 : acc < 128 ^ k) (hx0 : 0 ≤ x) (hx1 : x ≤ 255) (h9 : k = 9 → x % 128 ≤ 1) :
    bits BinOp.or IntKind.u64 acc (IntKind.u64.wrap (IntKind.u64.wrap (bits BinOp.and IntKind.u8 x 127) * 2 ^ (7 * k))) = acc + x % 128 * 128 ^ k := by
  obtain ⟨ht1, ht2⟩ := acc_top hk h1 (by omega : 0 ≤ x % 128) (by omega) h9
  have hp := pow_pos128 k
  have hm : 0 ≤ x % 128 * 128 ^ k := Int.mul_nonneg (by omega) (by omega)
  rw [u8_and127 x hx0 hx1, IntWalk.u64_in (x % 128) ⟨by omega, by omega⟩, pow128, IntWalk.u64_in (x % 128 * 128 ^ k) ⟨hm, by omega⟩, ← pow128]
  exact u64_or_above acc (x % 128) (7 * k) h0 (by rw [pow128]; exact h1) (by omega) (by rw [pow128]; omega)

theorem getF_none {x : Int} {xs : List Int} {k : Nat} {acc : Int} (h : (k = 9 ∧ 1 < x) ∨ (0 < k ∧ x = 0)) : getF (x :: xs) k acc = none := by
  unfold getF
  by_cases c1 : k = 9 ∧ 1 < x
  · rw [if_pos c1]
  · rw [if_neg c1, if_pos (h.resolve_left c1)]
theorem getF_one {x : Int} {xs : List Int} {k : Nat} {acc : Int} (h1 : ¬ (k = 9 ∧ 1 < x)) (h2 : ¬ (0 < k ∧ x = 0)) (h3 : x < 128) : getF (x :: xs) k acc = some (acc + x * 128 ^ k, k + 1) := by
  unfold getF
  rw [if_neg h1, if_neg h2, if_pos h3]
theorem getF_more {x : Int} {xs : List Int} {k : Nat} {acc : Int} (h1 : ¬ (k = 9 ∧ 1 < x)) (h2 : ¬ (0 < k ∧ x = 0)) (h3 : ¬ x < 128) : getF (x :: xs) k acc = getF xs (k + 1) (acc + (x - 128) * 128 ^ k) := by
  conv => lhs; unfold getF
  rw [if_neg h1, if_neg h2, if_neg h3]

set_option maxHeartbeats 800000 in
theorem get_any (A : Option Addr) (n c : Nat) (l : List Int) (w : World) (hrd : Rd w A n c (vals .u8 l)) (hb : ∀ x ∈ l, 0 ≤ x ∧ x ≤ 255) :
    Calls Try.prog 36 #[.slice A n c] w fun e w' => e = .returned (getV (getZ l)) ∧ w = w' := by
  have hn := hrd.le
  have hll : l.length = n := by simpa using hrd.len
  have HLL := Lib.hid hll; clear hll
  have HB := Lib.hid hb; clear hb
  have HRD := Lib.hid hrd; clear hrd
  go_enter Try.func36, Try.ntmps36
  go_wp2
  go_loop [5, 10] (fun u i => ∃ (k : Nat) (acc : Int), k ≤ n ∧ k ≤ 9 ∧ i = .int .i64 k ∧ u = .int .u64 acc ∧ 0 ≤ acc ∧ acc < 128 ^ k ∧ Hid (getF l 0 0 = getF (l.drop k) k acc)) (fun _ i => n - (intOf i).toNat)
  case atStart => exact ⟨0, 0, Nat.zero_le _, by omega, rfl, rfl, by omega, by simp, rfl⟩
  case round =>
    obtain ⟨k, acc, hk, hk9, rfl, rfl, ha0, hak, hget⟩ := hrel
    by_cases hlt : k < n
    · obtain ⟨b, o, u, rfl, _, hu, hcu⟩ := HRD.out.at_ hlt
      obtain ⟨x, hx, rfl⟩ := vals_at hu
      have hxr := HB.out x (List.mem_of_getElem? hx)
      obtain ⟨hx0, hx1⟩ := hxr
      have hstep : Hid (l.drop k = x :: l.drop (k + 1)) := by
        obtain ⟨h1, h2⟩ := List.getElem?_eq_some_iff.1 hx
        show _ = _
        rw [List.drop_eq_getElem_cons h1, h2]
      clear hu hx
      by_cases hc : (k = 9 ∧ 1 < x) ∨ (0 < k ∧ x = 0)
      · have hno : Hid (getZ l = none) := by
          show _ = _
          rw [getZ, hget.out, hstep.out, getF_none hc]; rfl
        by_cases h1 : k = 9 ∧ 1 < x
        · obtain ⟨rfl, hx2⟩ := h1
          have hx2 : decide (1 < x) = true := by simpa using hx2
          clear hc
          go_wp2
          go_ret3
          exact ⟨by rw [hno.out]; rfl, rfl⟩
        · obtain ⟨hk0, rfl⟩ := hc.resolve_left h1
          have hk0 : decide (0 < (k : Int)) = true := by simpa using hk0
          clear hc
          by_cases h9 : k = 9
          · subst h9
            clear h1
            go_wp2
            go_ret3
            exact ⟨by rw [hno.out]; rfl, rfl⟩
          · have hb9 : ((k : Int) == 9) = false := by simpa using (by omega : ¬ (k : Int) = 9)
            clear h1
            go_wp2
            go_ret3
            exact ⟨by rw [hno.out]; rfl, rfl⟩
      · have h1 : ¬ (k = 9 ∧ 1 < x) := fun h => hc (.inl h)
        have h2 : ¬ (0 < k ∧ x = 0) := fun h => hc (.inr h)
        have hj : Hid _ := join_bits k acc x hk9 ha0 hak hx0 hx1 (fun h => by have : ¬ 1 < x := fun h' => h1 ⟨h, h'⟩; omega)
        obtain ⟨ht1, ht2⟩ := acc_top hk9 hak (by omega : 0 ≤ x % 128) (by omega) (fun h => by have : ¬ 1 < x := fun h' => h1 ⟨h, h'⟩; omega)
        have hp := pow_pos128 k
        have hm : 0 ≤ x % 128 * 128 ^ k := Int.mul_nonneg (by omega) (by omega)
        have HT := Lib.hid (And.intro ht1 (And.intro hp hm)); clear ht1 ht2 hp hm
        clear hc
        by_cases h128 : x < 128
        · have hyes : Hid (getZ l = some (backZ (acc + x % 128 * 128 ^ k), k + 1)) := by
            show _ = _
            rw [getZ, hget.out, hstep.out, getF_one h1 h2 h128, show x % 128 = x from by omega]; rfl
          have fin : ∀ z : Int, z = acc + x % 128 * 128 ^ k → Calls Try.prog 48 #[.int .u64 z] w fun e w' => e = .returned (.int .i64 (backZ (acc + x % 128 * 128 ^ k))) ∧ w = w' := by
            intro z hz
            subst hz
            exact turnBack_any _ _ (by have := HT.out; omega) (by have := HT.out; omega)
          have FIN := Lib.hid fin; clear fin
          by_cases h9 : k = 9 <;> by_cases hk0 : 0 < k <;> first | (exfalso; omega) | skip
          · subst h9
            have hx2 : decide (1 < x) = false := by simpa using (by omega : ¬ 1 < x)
            have hx00 : (x == 0) = false := by simpa using (by omega : ¬ x = 0)
            clear h1 h2
            go_wp2_with (go_at_call 48; refine (FIN.out _ hj.out).mono ?_; rintro e w' ⟨rfl, rfl⟩)
            go_ret3
            exact ⟨by rw [hyes.out]; rfl, rfl⟩
          · have hb9 : ((k : Int) == 9) = false := by simpa using (by omega : ¬ (k : Int) = 9)
            have hx00 : (x == 0) = false := by simpa using (by omega : ¬ x = 0)
            have hkb : decide (0 < (k : Int)) = true := by simpa using hk0
            clear h1 h2
            go_wp2_with (go_at_call 48; refine (FIN.out _ hj.out).mono ?_; rintro e w' ⟨rfl, rfl⟩)
            go_ret3
            exact ⟨by rw [hyes.out]; rfl, rfl⟩
          · have hb9 : ((k : Int) == 9) = false := by simpa using (by omega : ¬ (k : Int) = 9)
            have hkb : decide (0 < (k : Int)) = false := by simpa using hk0
            clear h1 h2
            go_wp2_with (go_at_call 48; refine (FIN.out _ hj.out).mono ?_; rintro e w' ⟨rfl, rfl⟩)
            go_ret3
            exact ⟨by rw [hyes.out]; rfl, rfl⟩
        · have hx00 : (x == 0) = false := by simpa using (by omega : ¬ x = 0)
          have hb9 : ((k : Int) == 9) = false := by simpa using (by omega : ¬ (k : Int) = 9)
          have hmore : Hid (getF l 0 0 = getF (l.drop (k + 1)) (k + 1) (acc + x % 128 * 128 ^ k)) := by
            show _ = _
            rw [hget.out, hstep.out, getF_more h1 h2 h128, show x % 128 = x - 128 from by omega]
          have rel : (∃ (k_1 : Nat) (acc_1 : Int), k_1 ≤ n ∧ k_1 ≤ 9 ∧ Value.int IntKind.i64 (↑k + 1) = Value.int IntKind.i64 ↑k_1 ∧
              Value.int IntKind.u64 (bits BinOp.or IntKind.u64 acc (IntKind.u64.wrap (IntKind.u64.wrap (bits BinOp.and IntKind.u8 x 127) * 2 ^ (7 * k)))) = Value.int IntKind.u64 acc_1 ∧
              0 ≤ acc_1 ∧ acc_1 < 128 ^ k_1 ∧ Hid (getF l 0 0 = getF (List.drop k_1 l) k_1 acc_1)) := by
            obtain ⟨ht1, hp, hm⟩ := HT.out
            refine ⟨k + 1, acc + x % 128 * 128 ^ k, by omega, by omega, by go_num, by rw [hj.out], by omega, ?_, hmore⟩
            rw [Int.pow_succ]
            have h3 : x % 128 * 128 ^ k ≤ 127 * 128 ^ k := Int.mul_le_mul_of_nonneg_right (by omega) (by omega)
            omega
          have REL := Lib.hid rel; clear rel
          by_cases hk0 : 0 < k
          · have hkb : decide (0 < (k : Int)) = true := by simpa using hk0
            clear h1 h2
            go_wp2
            exact ⟨REL.out, by simp [intOf]; omega⟩
          · have hkb : decide (0 < (k : Int)) = false := by simpa using hk0
            clear h1 h2
            go_wp2
            exact ⟨REL.out, by simp [intOf]; omega⟩
    · have hno : Hid (getZ l = none) := by
        show _ = _
        rw [getZ, hget.out, List.drop_of_length_le (by rw [HLL.out]; omega)]; rfl
      go_wp2
      go_ret3
      exact ⟨by rw [hno.out]; rfl, rfl⟩
end Go.Proofs.Ytijhcoidhlmecaa
