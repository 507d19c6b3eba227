/- Layer 8: why a counter may not be: the code, by a closure over the bound, and the document's answer. -/
import Derived.Test.YtieaobeidlhefaaCell
import Derived.Test.YtieaobeidlhefaaValPlain
import Derived.Deep.QuietTactic
namespace Go.Proofs.Ytieaobeidlhefaa
set_option maxRecDepth 100000
open Go.RowKit

/-- why a counter may not be: p: how many parts it has -/
def rightN (k : Int) (v : V3) (p : Nat) : Int :=
  if k = 2 ∧ v.k = 1 then (if v.s.size = 0 ∧ p = 0 then (if -1099511627776 ≤ v.n ∧ v.n ≤ 1099511627776 then 0 else 20) else 1) else 6

theorem farther_any (b : Int) (w : World) :
    Calls Try.prog 77 #[.int .i64 b] w fun e w' => e = .returned (.func (.func 89) #[] #[.pointer (some ⟨w.heap.size, 0, none⟩)]) ∧ w' = w.alloc (.cells #[.int .i64 b] 3) := by
  have hmf : ∀ (fn : Fn) (first cap : Array Value) (w : World), (Instr.makeFunc fn first cap).run Try.prog w = .ok (.func fn first cap) w := fun _ _ _ _ => rfl
  go_enter Try.func77, Try.ntmps77
  go_wp2
  go_ret
  exact ⟨rfl, rfl⟩

theorem far1_any (n : Int) (g : Nat) (w : World) (h : w.cell? ⟨g, 0, none⟩ = some (.int .i64 1099511627776)) :
    Calls Try.prog 89 #[.int .i64 n, .pointer (some ⟨g, 0, none⟩)] w fun e w' => e = .returned (.bool (decide (n < -1099511627776) || decide (1099511627776 < n))) ∧ w' = w := by
  go_enter Try.func89, Try.ntmps89
  go_wp2
  all_goals go_ret
  all_goals exact ⟨ret_bool (by simp_all <;> omega), rfl⟩

theorem str_empty {s : ByteArray} (h : s.size = 0) : s = ⟨#[]⟩ := by
  apply ByteArray.ext; exact Array.eq_empty_of_size_eq_zero h

set_option maxHeartbeats 1600000 in
theorem cntRight_any (k : Int) (v : V3) (A : Option Addr) (n c : Nat) (w : World) :
    Calls Try.prog 38 #[cellV k v (.slice A n c)] w fun e w' => e = .returned (.int .i64 (rightN k v n)) ∧ Below w.heap.size w w' := by
  obtain ⟨w1, hw1⟩ : ∃ w1, w1 = w.alloc (cellRow k v (.slice A n c)) := ⟨_, rfl⟩
  have h4 : w1.heap[w.heap.size]? = some (cellRow k v (.slice A n c)) := by rw [hw1]; exact heap_alloc_new _ _
  have B1 : Below w.heap.size w w1 := by rw [hw1]; exact below_new (Below.refl _ _) _
  have hB2 := below_new B1 (.cells #[.int .i64 1099511627776] 3)
  have h5 : (w1.alloc (.cells #[.int .i64 1099511627776] 3)).cell? ⟨w1.heap.size, 0, none⟩ = some (.int .i64 1099511627776) := by
    rw [cell_row (heap_alloc_new _ _)]; rfl
  obtain ⟨w2, hw2⟩ : ∃ w2, w2 = w1.alloc (.cells #[.int .i64 1099511627776] 3) := ⟨_, rfl⟩
  have h6 : w2.heap[w.heap.size]? = some (cellRow k v (.slice A n c)) := by rw [hw2]; exact row_below h4 (below_new (Below.refl _ _) _)
  rw [← hw2] at hB2 h5
  obtain ⟨c0, c1, c2, c3, c4⟩ := cell_row5 h6
  have HF := Lib.hid (far1_any v.n w1.heap.size w2 h5)
  have HB := Lib.hid hB2
  have HW1 := Lib.hid hw1; have HW2 := Lib.hid hw2
  obtain ⟨F, hF⟩ : ∃ F, Hid (F = rightN k v n) := ⟨_, rfl⟩
  rw [← hF.out]
  have hz4 : v.s.toList = [] ↔ v.s.size = 0 := by
    constructor
    · intro h; have := iem v.s; rw [h] at this; simpa using this.symm
    · intro h; rw [str_empty h, Lib.toList_data]
  have HZ := Lib.hid hz4
  clear h4 B1 hB2 h5 h6 hw1 hw2 hz4
  go_enter Try.func38, Try.ntmps38
  go_wp2_with fail
  rw [← HW1.out]
  refine (farther_any _ _).mono ?_
  rintro e w3 ⟨rfl, hw3⟩
  rw [← HW2.out] at hw3
  subst hw3
  clear HW1 HW2
  go_wp2_with fail
  all_goals first
    | (refine (HF.out).mono ?_
       rintro e w4 ⟨rfl, rfl⟩
       rcases Decidable.em (v.n < -1099511627776) with hlo | hlo <;> rcases Decidable.em (1099511627776 < v.n) with hhi | hhi
       all_goals simp [hlo, hhi]
       all_goals go_wp2_with fail
       all_goals go_ret
       all_goals
         refine ⟨ret_int ?_, HB.out⟩
         rw [hF.out]
         have hz := HZ.out
         clear HB hF
         unfold rightN
         repeat' split
         all_goals first
           | rfl
           | (exfalso; omega)
           | (exfalso; simp_all; done)
           | (exfalso; simp_all; omega))
    | (go_ret
       refine ⟨ret_int ?_, HB.out⟩
       rw [hF.out]
       have hz := HZ.out
       clear HB hF
       unfold rightN
       repeat' split
       all_goals first
         | rfl
         | (exfalso; omega)
         | (exfalso; simp_all; done)
         | (exfalso; simp_all; omega))

set_option maxHeartbeats 1600000 in
theorem refRight8_any (k : Int) (v : V3) (A : Option Addr) (n c : Nat) (w : World) :
    Calls Try.prog 39 #[cellV k v (.slice A n c)] w fun e w' => e = .returned (.int .i64 (rightN k v n)) ∧ Below w.heap.size w w' := by
  obtain ⟨c0, c1, c2, c3, c4⟩ := cell_row5 (heap_alloc_new w (cellRow k v (.slice A n c)))
  obtain ⟨F, hF⟩ : ∃ F, Hid (F = rightN k v n) := ⟨_, rfl⟩
  rw [← hF.out]
  have HZ : Hid (v.s.toList = [] ↔ v.s.size = 0) := by
    constructor
    · intro h; have := iem v.s; rw [h] at this; simpa using this.symm
    · intro h; rw [str_empty h, Lib.toList_data]
  go_enter Try.func39, Try.ntmps39
  go_wp2
  all_goals go_ret
  all_goals
    refine ⟨ret_int ?_, below_new (Below.refl _ _) _⟩
    rw [hF.out]
    have hz := HZ.out
    clear hF
    unfold rightN
    repeat' split
    all_goals first
      | rfl
      | (exfalso; omega)
      | (exfalso; simp_all; done)
      | (exfalso; simp_all; omega)
end Go.Proofs.Ytieaobeidlhefaa
