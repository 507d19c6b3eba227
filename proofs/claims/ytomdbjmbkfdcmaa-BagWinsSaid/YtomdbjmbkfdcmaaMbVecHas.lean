/- Layer 5: whether a dot is known: the code and the document's answer. -/
import Derived.Test.YtomdbjmbkfdcmaaMbVecRef
import Derived.Test.YtomdbjmbkfdcmaaMbBase
import Derived.Deep.RegionHeld3
namespace Go.Proofs.Ytomdbjmbkfdcmaa
set_option maxRecDepth 100000
open Go.RowKit

abbrev dotCells (d s : Int) : Obj := .cells #[.int .i64 d, .int .i64 s] 28

set_option maxHeartbeats 1600000 in
theorem vecHas_any (A : Option Addr) (n c : Nat) (l : List Int) (d s : Int) (w : World) (h : Rd w A n c (vals .i64 l)) :
    Calls Try.prog 40 #[.slice A n c, .agg #[.int .i64 d, .int .i64 s]] w fun e w' => e = .returned (.bool (hasV l d s)) ∧ Below w.heap.size w w' := by
  have P := Lib.hid (fun W (hW : Below w.heap.size w W) => vecOf_any A n c l d W (h.below hW))
  obtain ⟨r, hr⟩ : ∃ r, Hid (hasV l d s = r) := ⟨_, rfl⟩
  obtain ⟨z, hz⟩ : ∃ z, Hid (ofV l d = z) := ⟨_, rfl⟩
  rw [hz.out] at P
  rw [hr.out]
  have HR : Hid ((decide (1 ≤ s) && decide (s ≤ z)) = r) := by show _ = _; rw [← hr.out, hasV, hz.out]
  clear h hr hz
  have B0 := below_new (Below.refl w.heap.size w) (dotCells d s)
  have hr := heap_alloc_new w (dotCells d s)
  have c0 := cell_row hr 0; have c1 := cell_row hr 1
  simp only [List.getElem?_toArray, List.getElem?_cons_zero, List.getElem?_cons_succ] at c0 c1
  rcases Decidable.em (1 ≤ s) with h1 | h1
  · have HD : Hid (decide (s ≤ z) = r) := by show _ = _; rw [← HR.out, decide_eq_true h1, Bool.true_and]
    clear HR
    go_enter Try.func40, Try.ntmps40
    go_wp2_with fail
    go_quiet ((go_at_call 82; exact Calls.quiet_of_same (P.out _ (below_drewN B0 _))))
    go_wp2
    go_ret
    exact ⟨ret_bool HD.out, below_drewN B0 _⟩
  · have hf : decide (1 ≤ s) = false := decide_eq_false h1
    have HD : Hid (false = r) := by show _ = _; rw [← HR.out, hf, Bool.false_and]
    clear HR
    go_enter Try.func40, Try.ntmps40
    go_wp2_with fail
    go_quiet (fail)
    go_wp2
    go_ret
    exact ⟨ret_bool HD.out, below_drewN B0 _⟩

set_option maxHeartbeats 1600000 in
theorem refHas_any (A : Option Addr) (n c : Nat) (l : List Int) (d s : Int) (w : World) (h : Rd w A n c (vals .i64 l)) :
    Calls Try.prog 15 #[.slice A n c, .agg #[.int .i64 d, .int .i64 s]] w fun e w' => e = .returned (.bool (hasV l d s)) ∧ Below w.heap.size w w' := by
  have P := Lib.hid (fun W (hW : Below w.heap.size w W) => refOf_any A n c l d W (h.below hW))
  obtain ⟨r, hr⟩ : ∃ r, Hid (hasV l d s = r) := ⟨_, rfl⟩
  obtain ⟨z, hz⟩ : ∃ z, Hid (ofV l d = z) := ⟨_, rfl⟩
  rw [hz.out] at P
  rw [hr.out]
  have HR : Hid ((decide (1 ≤ s) && decide (s ≤ z)) = r) := by show _ = _; rw [← hr.out, hasV, hz.out]
  clear h hr hz
  have B0 := below_new (Below.refl w.heap.size w) (dotCells d s)
  have hr := heap_alloc_new w (dotCells d s)
  have c0 := cell_row hr 0; have c1 := cell_row hr 1
  simp only [List.getElem?_toArray, List.getElem?_cons_zero, List.getElem?_cons_succ] at c0 c1
  rcases Decidable.em (1 ≤ s) with h1 | h1
  · have HD : Hid (decide (s ≤ z) = r) := by show _ = _; rw [← HR.out, decide_eq_true h1, Bool.true_and]
    clear HR
    go_enter Try.func15, Try.ntmps15
    go_wp2_with fail
    go_quiet ((go_at_call 28; exact Calls.quiet_of_same (P.out _ (below_drewN B0 _))))
    go_wp2
    go_ret
    exact ⟨ret_bool HD.out, below_drewN B0 _⟩
  · have hf : decide (1 ≤ s) = false := decide_eq_false h1
    have HD : Hid (false = r) := by show _ = _; rw [← HR.out, hf, Bool.false_and]
    clear HR
    go_enter Try.func15, Try.ntmps15
    go_wp2_with fail
    go_quiet (fail)
    go_wp2
    go_ret
    exact ⟨ret_bool HD.out, below_drewN B0 _⟩
end Go.Proofs.Ytomdbjmbkfdcmaa

