/- Layer 9: which parts may be. -/
import Derived.Test.YtomdbjmbkfdcmaaMbBagClos
import Derived.Test.YtomdbjmbkfdcmaaMbRef
namespace Go.Proofs.Ytomdbjmbkfdcmaa
set_option maxRecDepth 100000
open Go.RowKit Go.Sort Srt

set_option maxHeartbeats 1600000 in
theorem rightPartB_any (p : P11) (w : World) :
    Calls Try.prog 43 #[p.agg] w fun e w' => e = .returned (.bool (okB p)) ∧ Below w.heap.size w w' := by
  obtain ⟨w1, hw1⟩ : ∃ w1, w1 = w.alloc (partCells p) := ⟨_, rfl⟩
  have h0 : w1.heap[w.heap.size]? = some (partCells p) := by rw [hw1]; exact heap_alloc_new _ _
  obtain ⟨x0, x1, x2, x3, x4, x5, x6, x7, x8, x9, x10⟩ := part_row h0
  have B : Hid (Below w.heap.size w w1) := by rw [hw1]; exact below_new (Below.refl _ _) _
  obtain ⟨q, hq⟩ : ∃ q, Hid (decide (p = part0 p.v p.d) = q) := ⟨_, rfl⟩
  have EQ : ∀ W, (Op.equalIn 10000 30 (.agg #[.int .i64 p.v.k, .int .i64 p.v.n, .string p.v.s, .int .i64 p.d.d, .int .i64 p.d.s, .int .i64 p.i, .int .i64 p.t, .int .i64 p.a.d, .int .i64 p.a.s, .int .i64 p.j, .bool p.g]) (.agg #[.int .i64 p.v.k, .int .i64 p.v.n, .string p.v.s, .int .i64 p.d.d, .int .i64 p.d.s, .int .i64 0, .int .i64 0, .int .i64 0, .int .i64 0, .int .i64 0, .bool false])).run Try.prog W = .ok q W := fun W => by rw [← hq.out]; exact run_equalIn_part p (part0 p.v p.d) W
  obtain ⟨r, hr, C⟩ : ∃ r, Hid (p.v.right = r) ∧ Hid (Calls Try.prog 70 #[.agg #[.int .i64 p.v.k, .int .i64 p.v.n, .string p.v.s]] w1 fun e w' => e = .returned (.bool r) ∧ Below w1.heap.size w1 w') := ⟨_, rfl, right_val p.v _⟩
  have K := Lib.hid (fun W (b : Below w1.heap.size w1 W) => part_row (row_below h0 b))
  obtain ⟨F, hF⟩ : ∃ F, Hid (okB p = F) := ⟨_, rfl⟩
  rw [hF.out]
  replace hw1 := Lib.hid hw1
  clear h0
  by_cases h0 : 1 ≤ p.d.d
  rotate_left
  · have HF : Hid (false = F) := by show _ = _; rw [← hF.out]; simp [okB, h0]
    have hd0 : decide (1 ≤ p.d.d) = false := decide_eq_false h0
    clear EQ C K
    go_enter Try.func43, Try.ntmps43
    go_upto_region 1 with fail
    rw [show w.alloc (partCells p) = w1 from hw1.out.symm]
    clear hw1
    go_wp2_with fail
    go_ret
    exact ⟨ret_bool HF.out, B.out⟩
  have hd0 : decide (1 ≤ p.d.d) = true := decide_eq_true h0
  by_cases h1 : p.d.d ≤ 64
  rotate_left
  · have HF : Hid (false = F) := by show _ = _; rw [← hF.out]; simp [okB, h1]
    have hd1 : decide (p.d.d ≤ 64) = false := decide_eq_false h1
    clear EQ C K
    go_enter Try.func43, Try.ntmps43
    go_upto_region 1 with fail
    rw [show w.alloc (partCells p) = w1 from hw1.out.symm]
    clear hw1
    go_wp2_with fail
    go_ret
    exact ⟨ret_bool HF.out, B.out⟩
  have hd1 : decide (p.d.d ≤ 64) = true := decide_eq_true h1
  by_cases h2 : 1 ≤ p.d.s
  rotate_left
  · have HF : Hid (false = F) := by show _ = _; rw [← hF.out]; simp [okB, h2]
    have hd2 : decide (1 ≤ p.d.s) = false := decide_eq_false h2
    clear EQ C K
    go_enter Try.func43, Try.ntmps43
    go_upto_region 1 with fail
    rw [show w.alloc (partCells p) = w1 from hw1.out.symm]
    clear hw1
    go_wp2_with fail
    go_ret
    exact ⟨ret_bool HF.out, B.out⟩
  have hd2 : decide (1 ≤ p.d.s) = true := decide_eq_true h2
  by_cases h3 : p.d.s ≤ 1048576
  rotate_left
  · have HF : Hid (false = F) := by show _ = _; rw [← hF.out]; simp [okB, h3]
    have hd3 : decide (p.d.s ≤ 1048576) = false := decide_eq_false h3
    clear EQ C K
    go_enter Try.func43, Try.ntmps43
    go_upto_region 1 with fail
    rw [show w.alloc (partCells p) = w1 from hw1.out.symm]
    clear hw1
    go_wp2_with fail
    go_ret
    exact ⟨ret_bool HF.out, B.out⟩
  have hd3 : decide (p.d.s ≤ 1048576) = true := decide_eq_true h3
  by_cases h4 : p.v.k = 1
  rotate_left
  · have HF : Hid (false = F) := by show _ = _; rw [← hF.out]; simp [okB, h4]
    have hd4 : (p.v.k == 1) = false := by simpa using h4
    clear EQ C K
    go_enter Try.func43, Try.ntmps43
    go_upto_region 1 with fail
    rw [show w.alloc (partCells p) = w1 from hw1.out.symm]
    clear hw1
    go_wp2_with fail
    go_ret
    exact ⟨ret_bool HF.out, B.out⟩
  have hd4 : (p.v.k == 1) = true := by simpa using h4
  have H4 := Lib.hid h4
  have HF : Hid ((r && q) = F) := by show _ = _; rw [← hF.out, ← hr.out, ← hq.out]; simp [okB, h0, h1, h2, h3, h4]
  clear h4
  go_enter Try.func43, Try.ntmps43
  go_upto_region 1 with fail
  rw [show w.alloc (partCells p) = w1 from hw1.out.symm]
  clear hw1
  go_wp2_with fail
  refine C.out.mono ?_
  rintro e w3 ⟨rfl, b3⟩
  obtain ⟨x0, x1, x2, x3, x4, x5, x6, x7, x8, x9, x10⟩ := K.out w3 b3
  have B3 := Lib.hid (below_then B.out b3)
  clear b3 C K
  cases r with
  | false =>
    have HF2 : Hid (false = F) := HF.out
    go_wp2_with fail
    go_ret
    exact ⟨ret_bool HF2.out, B3.out⟩
  | true =>
    have HF2 : Hid (q = F) := HF.out
    go_wp2_with fail
    go_ret
    exact ⟨ret_bool HF2.out, B3.out⟩
end Go.Proofs.Ytomdbjmbkfdcmaa

