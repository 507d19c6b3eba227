/- Layer 5: what a vector has of a device, its end, the longer one: the code and the document's answer. -/
import Derived.Test.YtefbgbciaiedeaaVecMath
import Derived.Test.YtefbgbciaiedeaaRows
import Derived.Deep.QuietTactic
import Derived.BigQuiet
import Derived.IntWalk
namespace Go.Proofs.Ytefbgbciaiedeaa
set_option maxRecDepth 100000
open Go.RowKit

theorem wrap_is {z : Int} (h : -9223372036854775808 ≤ z ∧ z ≤ 9223372036854775807) : IntKind.i64.wrap z = z := by
  simp [IntKind.wrap, IntKind.bits, IntKind.signed]; omega

theorem rd_dev {w : World} {A : Option Addr} {n c : Nat} {l : List Int} (h : Rd w A n c (vals .i64 l)) {d : Int} (h1 : 1 ≤ d) (h2 : d ≤ n) :
    ∃ b o, A = some ⟨b, o, none⟩ ∧ w.cell? ⟨b, o + (d.toNat - 1), none⟩ = some (.int .i64 (ofV l d)) := by
  obtain ⟨b, o, v, rfl, hb, hv, hc⟩ := h.at_ (k := d.toNat - 1) (by omega)
  obtain ⟨z, hz, rfl⟩ := vals_at hv
  refine ⟨b, o, rfl, ?_⟩
  rw [hc, ofV_in h1, ofN_at hz]

set_option maxHeartbeats 800000 in
theorem vecOf_any (A : Option Addr) (n c : Nat) (l : List Int) (d : Int) (w : World) (h : Rd w A n c (vals .i64 l)) :
    Calls Try.prog 15 #[.slice A n c, .int .i64 d] w fun e w' => e = .returned (.int .i64 (ofV l d)) ∧ w' = w := by
  have hle := h.le
  have hl : l.length = n := by simpa using h.len
  rcases Decidable.em (d < 1) with h1 | h1
  · have HV := Lib.hid (ofV_out (l := l) (.inl h1))
    clear h hl
    go_enter Try.func15, Try.ntmps15
    go_wp2
    go_ret
    exact ⟨ret_int HV.out.symm, rfl⟩
  · rcases Decidable.em ((n : Int) < d) with h2 | h2
    · have HV := Lib.hid (ofV_out (l := l) (d := d) (.inr (by omega)))
      clear h hl
      go_enter Try.func15, Try.ntmps15
      go_wp2
      go_ret
      exact ⟨ret_int HV.out.symm, rfl⟩
    · obtain ⟨b, o, rfl, hc⟩ := rd_dev h (d := d) (by omega) (by omega)
      have q1 : IntKind.i64.wrap (d - 1) = d - 1 := wrap_is (by omega)
      have q2 : (0 : Int) ≤ d - 1 := by omega
      have q3 : d - 1 < (n : Int) := by omega
      have q5 : (1 : Int) ≤ d := by omega
      have q6 : d ≤ (n : Int) := by omega
      clear h hl
      go_enter Try.func15, Try.ntmps15
      go_wp2
      go_ret
      exact ⟨rfl, rfl⟩

set_option maxHeartbeats 800000 in
theorem refOf_any (A : Option Addr) (n c : Nat) (l : List Int) (d : Int) (w : World) (h : Rd w A n c (vals .i64 l)) :
    Calls Try.prog 16 #[.slice A n c, .int .i64 d] w fun e w' => e = .returned (.int .i64 (ofV l d)) ∧ w' = w := by
  have hle := h.le
  have hl : l.length = n := by simpa using h.len
  rcases Decidable.em (1 ≤ d) with h1 | h1
  · rcases Decidable.em (d ≤ (n : Int)) with h2 | h2
    · obtain ⟨b, o, rfl, hc⟩ := rd_dev h (d := d) (by omega) (by omega)
      have q1 : IntKind.i64.wrap (d - 1) = d - 1 := wrap_is (by omega)
      have q2 : (0 : Int) ≤ d - 1 := by omega
      have q3 : d - 1 < (n : Int) := by omega
      have q5 : (1 : Int) ≤ d := by omega
      have q6 : d ≤ (n : Int) := by omega
      clear h hl
      go_enter Try.func16, Try.ntmps16
      go_wp2
      go_ret
      exact ⟨rfl, rfl⟩
    · have HV := Lib.hid (ofV_out (l := l) (d := d) (.inr (by omega)))
      clear h hl
      go_enter Try.func16, Try.ntmps16
      go_wp2
      go_ret
      exact ⟨ret_int HV.out.symm, rfl⟩
  · have HV := Lib.hid (ofV_out (l := l) (d := d) (.inl (by omega)))
    clear h hl
    go_enter Try.func16, Try.ntmps16
    go_wp2
    go_ret
    exact ⟨ret_int HV.out.symm, rfl⟩

theorem refLong_any (A B : Option Addr) (n m c d : Nat) (w : World) :
    Calls Try.prog 39 #[.slice A n c, .slice B m d] w fun e w' => e = .returned (.int .i64 (max n m : Nat)) ∧ w' = w := by
  rcases Decidable.em ((m : Int) < n) with h1 | h1
  · have HV : Hid (max n m = n) := by show _ = _; omega
    rw [HV.out]
    clear HV
    go_enter Try.func39, Try.ntmps39
    go_wp2
    go_ret
    exact ⟨rfl, rfl⟩
  · have HV : Hid (max n m = m) := by show _ = _; omega
    rw [HV.out]
    clear HV
    go_enter Try.func39, Try.ntmps39
    go_wp2
    go_ret
    exact ⟨rfl, rfl⟩

set_option maxHeartbeats 800000 in
theorem vecEnd_any (A : Option Addr) (n c : Nat) (l : List Int) (w : World) (h : Rd w A n c (vals .i64 l)) :
    Calls Try.prog 45 #[.slice A n c] w fun e w' => e = .returned (.int .i64 (endV l : Nat)) ∧ w' = w := by
  have hle := h.le
  have hl : l.length = n := by simpa using h.len
  have HH := Lib.hid h
  obtain ⟨z, hz⟩ : ∃ z, Hid (endV l = z) := ⟨_, rfl⟩
  have hs : Hid (endN l n = z) := by show _ = _; rw [← hz.out, endV, hl]
  rw [hz.out]
  clear h hl hz
  go_enter Try.func45, Try.ntmps45
  go_wp2_with fail
  go_loopw [3] (fun v wr => ∃ k : Nat, v = .int .i64 k ∧ k ≤ n ∧ Hid (endN l k = z) ∧ wr = w) (fun v _ => (intOf v).toNat)
  case atStart => exact ⟨n, rfl, Nat.le_refl _, hs, by trivial⟩
  case round =>
    clear hs
    obtain ⟨k, rfl, hk, hE, hw⟩ := hrel
    subst hw
    by_cases h0 : 0 < k
    · have h0z : (0 : Int) < (k : Int) := by omega
      obtain ⟨b, o, v, rfl, hb, hv, hc⟩ := HH.out.at_ (k := k - 1) (by omega)
      obtain ⟨x, hx, rfl⟩ := vals_at hv
      have HX := Lib.hid (ofN_at hx)
      clear hx hv hb
      obtain ⟨k1, hk1⟩ : ∃ k1, Hid (k = k1 + 1) := ⟨k - 1, by show _ = _; omega⟩
      have q1 : IntKind.i64.wrap ((k : Int) - 1) = (k : Int) - 1 := wrap_is (by omega)
      have q2 : (0 : Int) ≤ (k : Int) - 1 := by omega
      have q3 : (k : Int) - 1 < (n : Int) := by omega
      have q4 : ((k : Int) - 1).toNat = k - 1 := by omega
      by_cases hx0 : x = 0
      · subst hx0
        go_wp2
        refine ⟨⟨k1, by have := hk1.out; go_num, by have := hk1.out; omega, ?_, by trivial⟩, by simp [intOf]; omega⟩
        show _ = _
        have h1 := hE.out; have h2 := hk1.out; have h3 := HX.out
        subst h2
        rw [endN, if_pos (by simpa using h3)] at h1
        exact h1
      · have hbn : (x == 0) = false := by simpa using hx0
        have HZ : Hid (k = z) := by
          show _ = _
          have h1 := hE.out; have h2 := hk1.out; have h3 := HX.out
          subst h2
          rw [endN, if_neg (by simpa using (by rw [show k1 + 1 - 1 = k1 by omega] at h3; rw [h3]; exact hx0))] at h1
          exact h1
        go_wp2
        go_ret
        exact ⟨ret_int (by rw [← HZ.out]), rfl⟩
    · have h0z : ¬ (0 : Int) < (k : Int) := by omega
      have HZ : Hid (k = z) := by
        show _ = _
        have h1 := hE.out
        obtain rfl : k = 0 := by omega
        exact h1
      go_wp2
      go_ret
      exact ⟨ret_int (by rw [← HZ.out]), rfl⟩
end Go.Proofs.Ytefbgbciaiedeaa
