/- Layer 5: what a vector has of a device, its end, the longer one: the code and the document's answer. -/
import Derived.Test.YtomdbjmbkfdcmaaMbVecMath
import Derived.Test.YtomdbjmbkfdcmaaRows
import Derived.Deep.QuietTactic
import Derived.BigQuiet
import Derived.IntWalk
namespace Go.Proofs.Ytomdbjmbkfdcmaa
set_option maxRecDepth 100000
open Go.RowKit

theorem rd_dev {w : World} {A : Option Addr} {n c : Nat} {l : List Int} (h : Rd w A n c (vals .i64 l)) {d : Int} (h1 : 1 ≤ d) (h2 : d ≤ n) :
    ∃ b o, A = some ⟨b, o, none⟩ ∧ w.cell? ⟨b, o + (d.toNat - 1), none⟩ = some (.int .i64 (ofV l d)) := by
  obtain ⟨b, o, v, rfl, hb, hv, hc⟩ := h.at_ (k := d.toNat - 1) (by omega)
  obtain ⟨z, hz, rfl⟩ := vals_at hv
  refine ⟨b, o, rfl, ?_⟩
  rw [hc, ofV_in h1, ofN_at hz]

set_option maxHeartbeats 800000 in
theorem vecOf_any (A : Option Addr) (n c : Nat) (l : List Int) (d : Int) (w : World) (h : Rd w A n c (vals .i64 l)) :
    Calls Try.prog 82 #[.slice A n c, .int .i64 d] w fun e w' => e = .returned (.int .i64 (ofV l d)) ∧ w' = w := by
  have hle := h.le
  have hl : l.length = n := by simpa using h.len
  rcases Decidable.em (d < 1) with h1 | h1
  · have HV := Lib.hid (ofV_out (l := l) (.inl h1))
    clear h hl
    go_enter Try.func82, Try.ntmps82
    go_wp2
    go_ret
    exact ⟨ret_int HV.out.symm, rfl⟩
  · rcases Decidable.em ((n : Int) < d) with h2 | h2
    · have HV := Lib.hid (ofV_out (l := l) (d := d) (.inr (by omega)))
      clear h hl
      go_enter Try.func82, Try.ntmps82
      go_wp2
      go_ret
      exact ⟨ret_int HV.out.symm, rfl⟩
    · obtain ⟨b, o, rfl, hc⟩ := rd_dev h (d := d) (by omega) (by omega)
      have q1 : IntKind.i64.wrap (d - 1) = d - 1 := wrap_is (by omega)
      have q2 : (0 : Int) ≤ d - 1 := by omega
      have q3 : d - 1 < (n : Int) := by omega
      have q5 : (1 : Int) ≤ d := by omega
      have q6 : d ≤ (n : Int) := by omega
      clear h hl
      go_enter Try.func82, Try.ntmps82
      go_wp2
      go_ret
      exact ⟨rfl, rfl⟩

set_option maxHeartbeats 800000 in
theorem refOf_any (A : Option Addr) (n c : Nat) (l : List Int) (d : Int) (w : World) (h : Rd w A n c (vals .i64 l)) :
    Calls Try.prog 28 #[.slice A n c, .int .i64 d] w fun e w' => e = .returned (.int .i64 (ofV l d)) ∧ w' = w := by
  have hle := h.le
  have hl : l.length = n := by simpa using h.len
  rcases Decidable.em (1 ≤ d) with h1 | h1
  · rcases Decidable.em (d ≤ (n : Int)) with h2 | h2
    · obtain ⟨b, o, rfl, hc⟩ := rd_dev h (d := d) (by omega) (by omega)
      have q1 : IntKind.i64.wrap (d - 1) = d - 1 := wrap_is (by omega)
      have q2 : (0 : Int) ≤ d - 1 := by omega
      have q3 : d - 1 < (n : Int) := by omega
      have q5 : (1 : Int) ≤ d := by omega
      have q6 : d ≤ (n : Int) := by omega
      clear h hl
      go_enter Try.func28, Try.ntmps28
      go_wp2
      go_ret
      exact ⟨rfl, rfl⟩
    · have HV := Lib.hid (ofV_out (l := l) (d := d) (.inr (by omega)))
      clear h hl
      go_enter Try.func28, Try.ntmps28
      go_wp2
      go_ret
      exact ⟨ret_int HV.out.symm, rfl⟩
  · have HV := Lib.hid (ofV_out (l := l) (d := d) (.inl (by omega)))
    clear h hl
    go_enter Try.func28, Try.ntmps28
    go_wp2
    go_ret
    exact ⟨ret_int HV.out.symm, rfl⟩

theorem refLong_any (A B : Option Addr) (n m c d : Nat) (w : World) :
    Calls Try.prog 68 #[.slice A n c, .slice B m d] w fun e w' => e = .returned (.int .i64 (max n m : Nat)) ∧ w' = w := by
  rcases Decidable.em ((m : Int) < n) with h1 | h1
  · have HV : Hid (max n m = n) := by show _ = _; omega
    rw [HV.out]
    clear HV
    go_enter Try.func68, Try.ntmps68
    go_wp2
    go_ret
    exact ⟨rfl, rfl⟩
  · have HV : Hid (max n m = m) := by show _ = _; omega
    rw [HV.out]
    clear HV
    go_enter Try.func68, Try.ntmps68
    go_wp2
    go_ret
    exact ⟨rfl, rfl⟩

end Go.Proofs.Ytomdbjmbkfdcmaa

