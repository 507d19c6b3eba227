/- Layer 2: bytes that are got are those that the value has; what is put is got. -/
import Derived.Test.YtijhcoidhlmecaaValGet
namespace Go.Proofs.Ytijhcoidhlmecaa
set_option maxRecDepth 100000
open Go.RowKit

theorem textOf_size (l : List Int) : (textOf l).size = l.length := by simp [textOf, ByteArray.size]

theorem textZ_some {l t : List Int} {k : Nat} (hb : ∀ x ∈ l, 0 ≤ x ∧ x ≤ 255) (h : textZ l = some (t, k)) : k ≤ l.length ∧ l.take k = putZ (t.length : Int) ++ t ∧ ∀ x ∈ t, 0 ≤ x ∧ x ≤ 255 := by
  unfold textZ at h
  split at h
  · rename_i n k0 hg
    split at h
    · rename_i hn
      injection h with h
      injection h with h1 h2
      have hs := getZ_some hb hg
      have hlen : t.length = n.toNat := by rw [← h1, List.length_take, List.length_drop]; omega
      have hn2 : (t.length : Int) = n := by omega
      refine ⟨by omega, ?_, fun x hx => hb x (by rw [← h1] at hx; exact List.mem_of_mem_drop (List.mem_of_mem_take hx))⟩
      rw [hn2, ← h2, List.take_add, ← h1]
      congr 1
      exact hs.2.1
    · cases h
  · cases h

theorem got_bytes {l : List Int} (hb : ∀ x ∈ l, 0 ≤ x ∧ x ≤ 255) (h : getOk l = true) :
    ∃ m : Nat, 1 + hM l = (m : Int) ∧ 1 ≤ m ∧ m ≤ l.length ∧ bytesZ (hK l) (hN l) (hS l) = l.take m ∧ rightZ (hK l) (hN l) (hS l).size = true ∧ -9223372036854775808 ≤ hN l ∧ hN l ≤ 9223372036854775807 ∧ (hS l).size ≤ l.length := by
  simp only [getOk, Bool.and_eq_true, decide_eq_true_eq] at h
  obtain ⟨he, hr⟩ := h
  cases l with
  | nil => simp [hE] at he
  | cons x r =>
    have hx := hb x (by simp)
    have hbr : ∀ y ∈ r, 0 ≤ y ∧ y ≤ 255 := fun y hy => hb y (List.mem_cons_of_mem _ hy)
    have hmod : x % 256 = x := by omega
    rcases Decidable.em (x = 1) with rfl | h1
    · simp only [hE, if_true] at he
      cases hg : getZ r with
      | none => rw [hg] at he; simp [vE] at he
      | some p =>
        obtain ⟨n, k⟩ := p
        have hs := getZ_some hbr hg
        have e1 : hN (1 :: r) = n := by simp [hN, hg, vN]
        have e2 : hM (1 :: r) = k := by simp [hM, hg, vM]
        have e3 : hS (1 :: r) = ⟨#[]⟩ := by simp [hS]
        have e4 : hK (1 :: r) = 1 := rfl
        refine ⟨k + 1, by rw [e2]; push_cast; omega, by omega, by have := hs.2.2.2.2; simp; omega, ?_, hr, by rw [e1]; exact hs.1.1, by rw [e1]; exact hs.1.2, by rw [e3]; exact Nat.zero_le _⟩
        rw [e4, e1, e3, bytesZ, if_pos rfl, List.take_succ_cons, hmod, hs.2.1]
    · rcases Decidable.em (x = 2) with rfl | h2
      · simp only [hE, if_neg h1, if_true] at he
        cases hg : textZ r with
        | none => rw [hg] at he; simp [uE] at he
        | some p =>
          obtain ⟨t, k⟩ := p
          obtain ⟨hk, ht, hbt⟩ := textZ_some hbr hg
          have e1 : hN (2 :: r) = 0 := by simp [hN]
          have e2 : hM (2 :: r) = k := by simp [hM, hg, uM]
          have e3 : hS (2 :: r) = textOf t := by simp [hS, hg, uT]
          have e4 : hK (2 :: r) = 2 := rfl
          have hlt : t.length ≤ r.length := by
            have := congrArg List.length ht
            rw [List.length_take, List.length_append] at this; omega
          refine ⟨k + 1, by rw [e2]; push_cast; omega, by omega, by simp; omega, ?_, hr, by rw [e1]; decide, by rw [e1]; decide, by rw [e3, textOf_size]; simp; omega⟩
          rw [e4, e1, e3, bytesZ, if_neg (by decide), if_pos rfl, List.take_succ_cons, hmod, ht, textOf_size, sbytes_textOf hbt]
      · have e1 : hN (x :: r) = 0 := by simp [hN, h1]
        have e2 : hM (x :: r) = 0 := by simp [hM, h1, h2]
        have e3 : hS (x :: r) = ⟨#[]⟩ := by simp [hS, h2]
        have e4 : hK (x :: r) = x := rfl
        refine ⟨1, by rw [e2]; rfl, by omega, by simp, ?_, hr, by rw [e1]; decide, by rw [e1]; decide, by rw [e3]; exact Nat.zero_le _⟩
        rw [e4, e1, e3, bytesZ, if_neg h1, if_neg h2, hmod]; rfl

theorem run_upto {A : Option Addr} {n c m : Nat} (h : m ≤ c) (W : World) : (Instr.slice 35 (.slice A n c) none (some (.int .i64 m)) none).run Try.prog W = .ok (.slice A m c) W := by
  have hz : (sizeOf (Try.prog.elem 35)).run Try.prog W = .ok 1 W := by kernel_rfl
  have ht : Try.prog.underlying 35 = some (.slice (Try.prog.elem 35)) := by kernel_rfl
  rw [run_slice_h (P := Try.prog) (w := W) (t := 35) (a := A) (len := n) (cap := c) (ht := ht) (kh := .i64) (h := m) (h0 := by omega) (h2 := by omega), hz]
  have ha : A.map (·.add (0 * 1)) = A := by cases A <;> simp [Addr.add]
  simp only [Result.andThen, sliced, ha, Int.toNat_natCast, Nat.sub_zero, ite_self]
end Go.Proofs.Ytijhcoidhlmecaa
