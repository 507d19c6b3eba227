/- Layer 10: whether a part is formed: the code. -/
import Derived.Test.YtlgpijdemfccaaaMbTxtPlain
namespace Go.Proofs.Ytlgpijdemfccaaa
set_option maxRecDepth 100000
open Go.RowKit

set_option maxHeartbeats 1600000 in
theorem formed_any (p : P11) (w : World) : Calls Try.prog 32 #[p.agg] w fun e w' => e = .returned (.bool (formedT p)) ∧ Grown w w' := by
  obtain ⟨w1, hw1⟩ : ∃ w1, w1 = w.alloc (partCells p) := ⟨_, rfl⟩
  have h0 : w1.heap[w.heap.size]? = some (partCells p) := by rw [hw1]; exact heap_alloc_new _ _
  obtain ⟨x0, x1, x2, x3, x4, x5, x6, x7, x8, x9, x10⟩ := part_row h0
  have B : Hid (Grown w w1) := by rw [hw1]; exact (Grown.refl _).alloc _
  have ST := Lib.hid (fun W => stampOf_any p W)
  obtain ⟨r, hr, RS⟩ : ∃ r, Hid (rightSt (stP p) = r) ∧ Hid (∀ W, Calls Try.prog 44 #[(stP p).agg] W fun e w' => e = .returned (.bool r) ∧ Grown W w') := ⟨_, rfl, fun W => rightStamp_any _ W⟩
  obtain ⟨q, hq⟩ : ∃ q, Hid (decide (p.v = ⟨1, p.v.n, ⟨#[]⟩⟩) = q) := ⟨_, rfl⟩
  have EQ : ∀ W, (Op.equalIn 10000 23 (.agg #[.int .i64 p.v.k, .int .i64 p.v.n, .string p.v.s]) (.agg #[.int .i64 1, .int .i64 p.v.n, .string ⟨#[]⟩])).run Try.prog W = .ok q W := fun W => by rw [← hq.out]; exact run_equalIn_valF 9998 p.v ⟨1, p.v.n, ⟨#[]⟩⟩ W
  obtain ⟨F, hF⟩ : ∃ F, Hid (formedT p = F) := ⟨_, rfl⟩
  have hF2 : Hid ((q && (decide (0 ≤ p.v.n ∧ p.v.n ≤ 255) && (decide (0 ≤ p.i ∧ p.i < 2000) && r))) = F) := by
    show _ = _
    rw [← hF.out, ← hq.out, ← hr.out]; rfl
  rw [hF.out]
  replace hw1 := Lib.hid hw1
  clear h0 hF hq hr
  cases q with
  | false =>
    have HF : Hid (false = F) := by show _ = _; rw [← hF2.out]; rfl
    clear ST RS
    go_enter Try.func32, Try.ntmps32
    go_upto_region 1 with fail
    rw [show w.alloc (partCells p) = w1 from hw1.out.symm]
    clear hw1
    go_wp2_with fail
    go_ret
    exact ⟨ret_bool HF.out, B.out⟩
  | true =>
  by_cases h0 : 0 ≤ p.v.n
  rotate_left
  · have HF : Hid (false = F) := by show _ = _; rw [← hF2.out]; simp [h0]
    have hd0 : decide (0 ≤ p.v.n) = false := decide_eq_false h0
    clear ST RS
    go_enter Try.func32, Try.ntmps32
    go_upto_region 1 with fail
    rw [show w.alloc (partCells p) = w1 from hw1.out.symm]
    clear hw1
    go_wp2_with fail
    go_ret
    exact ⟨ret_bool HF.out, B.out⟩
  have hd0 : decide (0 ≤ p.v.n) = true := decide_eq_true h0
  by_cases h1 : p.v.n ≤ 255
  rotate_left
  · have HF : Hid (false = F) := by show _ = _; rw [← hF2.out]; simp [h0, h1]
    have hd1 : decide (p.v.n ≤ 255) = false := decide_eq_false h1
    clear ST RS
    go_enter Try.func32, Try.ntmps32
    go_upto_region 1 with fail
    rw [show w.alloc (partCells p) = w1 from hw1.out.symm]
    clear hw1
    go_wp2_with fail
    go_ret
    exact ⟨ret_bool HF.out, B.out⟩
  have hd1 : decide (p.v.n ≤ 255) = true := decide_eq_true h1
  by_cases h2 : 0 ≤ p.i
  rotate_left
  · have HF : Hid (false = F) := by show _ = _; rw [← hF2.out]; simp [h0, h1, h2]
    have hd2 : decide (0 ≤ p.i) = false := decide_eq_false h2
    clear ST RS
    go_enter Try.func32, Try.ntmps32
    go_upto_region 1 with fail
    rw [show w.alloc (partCells p) = w1 from hw1.out.symm]
    clear hw1
    go_wp2_with fail
    go_ret
    exact ⟨ret_bool HF.out, B.out⟩
  have hd2 : decide (0 ≤ p.i) = true := decide_eq_true h2
  by_cases h3 : p.i < 2000
  rotate_left
  · have HF : Hid (false = F) := by show _ = _; rw [← hF2.out]; simp [h0, h1, h2, h3]
    have hd3 : decide (p.i < 2000) = false := decide_eq_false h3
    clear ST RS
    go_enter Try.func32, Try.ntmps32
    go_upto_region 1 with fail
    rw [show w.alloc (partCells p) = w1 from hw1.out.symm]
    clear hw1
    go_wp2_with fail
    go_ret
    exact ⟨ret_bool HF.out, B.out⟩
  have hd3 : decide (p.i < 2000) = true := decide_eq_true h3
  have HF : Hid (r = F) := by show _ = _; rw [← hF2.out]; simp [h0, h1, h2, h3]
  go_enter Try.func32, Try.ntmps32
  go_upto_region 1 with fail
  rw [show w.alloc (partCells p) = w1 from hw1.out.symm]
  clear hw1
  go_wp2_with fail
  refine (ST.out _).mono ?_
  rintro e w2 ⟨rfl, g2⟩
  have B2 := Lib.hid (B.out.trans g2)
  clear g2 ST x0 x1 x2 x3 x4 x5 x6 x7 x8 x9 x10
  go_wp2_with fail
  refine (RS.out _).mono ?_
  rintro e w3 ⟨rfl, g3⟩
  have B3 := Lib.hid (B2.out.trans g3)
  clear g3 RS
  cases r with
  | true =>
    go_wp2_with fail
    go_ret
    exact ⟨ret_bool HF.out, B3.out⟩
  | false =>
    go_wp2_with fail
    go_ret
    exact ⟨ret_bool HF.out, B3.out⟩
end Go.Proofs.Ytlgpijdemfccaaa

