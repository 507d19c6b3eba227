/- Layer 8: what two counters come to; what a counter shows; the first counter. -/
import Derived.Test.YtieaobeidlhefaaCntAdd
namespace Go.Proofs.Ytieaobeidlhefaa
set_option maxRecDepth 100000
open Go.RowKit

theorem set3r {w : World} {g : Nat} {a b c x y z : Value} {t : TypeId} {fr : Nat × Nat} (h : w.heap[g]? = some (.cells #[a, b, c] t fr)) :
    (((w.setCell ⟨g, 0, none⟩ x).setCell ⟨g, 1, none⟩ y).setCell ⟨g, 2, none⟩ z).heap[g]? = some (.cells #[x, y, z] t fr) := set3 h

theorem v3_n {v : V3} (h1 : v.k = 1) (h2 : v.s.size = 0) : v = ⟨1, v.n, noS⟩ := by
  obtain ⟨k, n, s⟩ := v
  obtain rfl : k = 1 := h1
  obtain rfl : s = noS := str_empty h2
  rfl

/-- what a cell shows -/
def showC (x : C5) : V3 := if x.right = 0 then x.v else ⟨0, 0, noS⟩

set_option maxHeartbeats 1600000 in
theorem cntNew_any (w : World) : Calls Try.prog 43 #[] w fun e w' => e = .returned (cntV 0) ∧ Below w.heap.size w w' := by
  obtain ⟨g, hg⟩ : ∃ g, g = w.heap.size := ⟨_, rfl⟩
  obtain ⟨w1, hw1⟩ : ∃ w1, w1 = w.alloc zeroRow := ⟨_, rfl⟩
  have b1 : Below w.heap.size w w1 := by rw [hw1]; exact below_new (Below.refl _ _) _
  have r1 : w1.heap[g]? = some zeroRow := by rw [hw1, hg]; exact heap_alloc_new _ _
  have C := Lib.hid (cntCell_any none 0 0 [] w1 (Rd.nil_ _))
  have HG := Lib.hid hg; have HW1 := Lib.hid hw1; have HB := Lib.hid b1; have R1 := Lib.hid r1
  clear hg hw1 b1 r1
  go_enter Try.func43, Try.ntmps43
  go_wp2_with fail
  rw [← HG.out]
  rw [show w.alloc (Obj.cells #[Value.int .i64 0, .int .i64 0, .int .i64 0, .string ⟨#[]⟩, .slice none 0 0] 26) = w1 from HW1.out.symm]
  refine C.out.mono ?_
  rintro e w2 ⟨rfl, b2⟩
  have R2 := Lib.hid (row_below R1.out b2)
  have hgw : w.heap.size ≤ g := by rw [HG.out]; exact Nat.le_refl _
  have B2 := below_then HB.out b2
  obtain ⟨e0, e1, e2, e3, e4⟩ := cell_row5 R2.out
  have f1 := frozen_row R2.out
  dsimp only at e0 e1 e2 e3 e4
  go_wp2_with fail
  refine bodyPost_ret (v := cntV 0) (results_cell_row rfl _ _ g 26 _ (0, 0) _ rfl (set5 R2.out) Try.underlying26 rfl (by kernel_rfl)) rfl ?_
  exact ⟨rfl, ((((B2.setCell hgw _).setCell hgw _).setCell hgw _).setCell hgw _).setCell hgw _⟩

set_option maxHeartbeats 1600000 in
theorem refOf8_any (n : Int) (w : World) : Calls Try.prog 48 #[.int .i64 n] w fun e w' => e = .returned (cntV n) ∧ Below w.heap.size w w' := by
  have r1 : (w.alloc (cntRow n)).heap[w.heap.size]? = some (cntRow n) := heap_alloc_new _ _
  have R1 := Lib.hid r1
  clear r1
  go_enter Try.func48, Try.ntmps48
  go_wp2_with fail
  refine bodyPost_ret (v := cntV n) (results_cell_row rfl _ _ w.heap.size 26 _ (0, 0) _ rfl R1.out Try.underlying26 rfl (by kernel_rfl)) rfl ?_
  exact ⟨rfl, below_new (Below.refl _ _) _⟩

set_option maxHeartbeats 1600000 in
theorem refNew8_any (w : World) : Calls Try.prog 44 #[] w fun e w' => e = .returned (cntV 0) ∧ Below w.heap.size w w' := by
  obtain ⟨g, hg⟩ : ∃ g, g = w.heap.size := ⟨_, rfl⟩
  obtain ⟨w1, hw1⟩ : ∃ w1, w1 = w.alloc zeroRow := ⟨_, rfl⟩
  have b1 : Below w.heap.size w w1 := by rw [hw1]; exact below_new (Below.refl _ _) _
  have r1 : w1.heap[g]? = some zeroRow := by rw [hw1, hg]; exact heap_alloc_new _ _
  have C := Lib.hid (refOf8_any 0 w1)
  have HG := Lib.hid hg; have HW1 := Lib.hid hw1; have HB := Lib.hid b1; have R1 := Lib.hid r1
  clear hg hw1 b1 r1
  go_enter Try.func44, Try.ntmps44
  go_wp2_with fail
  rw [← HG.out]
  rw [show w.alloc (Obj.cells #[Value.int .i64 0, .int .i64 0, .int .i64 0, .string ⟨#[]⟩, .slice none 0 0] 26) = w1 from HW1.out.symm]
  refine C.out.mono ?_
  rintro e w2 ⟨rfl, b2⟩
  have R2 := Lib.hid (row_below R1.out b2)
  have hgw : w.heap.size ≤ g := by rw [HG.out]; exact Nat.le_refl _
  have B2 := below_then HB.out b2
  obtain ⟨e0, e1, e2, e3, e4⟩ := cell_row5 R2.out
  have f1 := frozen_row R2.out
  dsimp only at e0 e1 e2 e3 e4
  go_wp2_with fail
  refine bodyPost_ret (v := cntV 0) (results_cell_row rfl _ _ g 26 _ (0, 0) _ rfl (set5 R2.out) Try.underlying26 rfl (by kernel_rfl)) rfl ?_
  exact ⟨rfl, ((((B2.setCell hgw _).setCell hgw _).setCell hgw _).setCell hgw _).setCell hgw _⟩

set_option maxHeartbeats 1600000 in
theorem cntShow_any (x : C5) (w : World) : Calls Try.prog 40 #[x.val] w fun e w' => e = .returned (showC x).agg ∧ Below w.heap.size w w' := by
  obtain ⟨g, hg⟩ : ∃ g, g = w.heap.size := ⟨_, rfl⟩
  obtain ⟨w1, hw1⟩ : ∃ w1, w1 = (w.alloc (cellRow x.k x.v (.slice x.A x.n x.c))).alloc (valRow ⟨0, 0, noS⟩) := ⟨_, rfl⟩
  have b1 : Below w.heap.size w w1 := by rw [hw1]; exact below_new (below_new (Below.refl _ _) _) _
  have r1 : w1.heap[g]? = some (cellRow x.k x.v (.slice x.A x.n x.c)) := by rw [hw1, hg]; exact row_below (heap_alloc_new _ _) (below_new (Below.refl _ _) _)
  have r2 : w1.heap[g + 1]? = some (valRow ⟨0, 0, noS⟩) := by
    have := heap_alloc_new (w.alloc (cellRow x.k x.v (.slice x.A x.n x.c))) (valRow ⟨0, 0, noS⟩)
    rw [World.size_alloc, ← hg, ← hw1] at this; exact this
  obtain ⟨a0, a1, a2, a3, a4⟩ := cell_row5 r1
  obtain ⟨r, hr⟩ : ∃ r, Hid (x.right = r) := ⟨_, rfl⟩
  have C := Lib.hid (cntRight_any x.k x.v x.A x.n x.c w1)
  rw [show rightN x.k x.v x.n = r from hr.out] at C
  obtain ⟨F, hF⟩ : ∃ F, Hid (showC x = F) := ⟨_, rfl⟩
  rw [hF.out]
  have HG := Lib.hid hg; have HW1 := Lib.hid hw1; have HB := Lib.hid b1; have R1 := Lib.hid r1; have R2 := Lib.hid r2
  clear hg hw1 b1 r1 r2
  go_enter Try.func40, Try.ntmps40
  go_upto_region 1 with fail
  rw [← HG.out]
  rw [show (w.alloc (cellRow x.k x.v (.slice x.A x.n x.c))).alloc (Obj.cells #[Value.int .i64 0, .int .i64 0, .string ⟨#[]⟩] 23) = w1 from HW1.out.symm]
  clear HW1
  go_wp2_with fail
  refine C.out.mono ?_
  rintro e w2 ⟨rfl, b2⟩
  have R3 := Lib.hid (row_below R2.out b2)
  obtain ⟨a0, a1, a2, a3, a4⟩ := cell_row5 (row_below R1.out b2)
  have hgw : Hid (w.heap.size ≤ g + 1) := by rw [HG.out]; exact Nat.le_succ _
  have B2 := Lib.hid (below_then HB.out b2)
  obtain ⟨e0, e1, e2⟩ := val_row R3.out
  have f1 := frozen_row R3.out
  dsimp only at e0 e1 e2
  clear b2 C R1 R2 HB
  by_cases h0 : r = 0
  · have hx : x.right = 0 := by rw [hr.out, h0]
    have HC : Hid (F = x.v) := by show _ = _; rw [← hF.out, showC, if_pos hx]
    subst h0
    clear hr hF hx
    go_wp2_with fail
    refine bodyPost_ret (v := (x.v : V3).agg) (results_cell_row rfl _ _ (g + 1) 23 _ (0, 0) _ rfl (set3r R3.out) Try.underlying23 rfl (by kernel_rfl)) rfl ?_
    exact ⟨by rw [HC.out], ((B2.out.setCell hgw.out _).setCell hgw.out _).setCell hgw.out _⟩
  · have hx : ¬ x.right = 0 := by rw [hr.out]; exact h0
    have HC : Hid (F = ⟨0, 0, noS⟩) := by show _ = _; rw [← hF.out, showC, if_neg hx]
    clear hr hF hx
    go_wp2_with fail
    refine bodyPost_ret (v := (⟨0, 0, noS⟩ : V3).agg) (results_cell_row rfl _ _ (g + 1) 23 _ (0, 0) _ rfl (set3r R3.out) Try.underlying23 rfl (by kernel_rfl)) rfl ?_
    exact ⟨by rw [HC.out], ((B2.out.setCell hgw.out _).setCell hgw.out _).setCell hgw.out _⟩

set_option maxHeartbeats 1600000 in
theorem refShow8_any (x : C5) (w : World) : Calls Try.prog 41 #[x.val] w fun e w' => e = .returned (showC x).agg ∧ Below w.heap.size w w' := by
  obtain ⟨g, hg⟩ : ∃ g, g = w.heap.size := ⟨_, rfl⟩
  obtain ⟨w1, hw1⟩ : ∃ w1, w1 = (w.alloc (cellRow x.k x.v (.slice x.A x.n x.c))).alloc (valRow ⟨0, 0, noS⟩) := ⟨_, rfl⟩
  have b1 : Below w.heap.size w w1 := by rw [hw1]; exact below_new (below_new (Below.refl _ _) _) _
  have r1 : w1.heap[g]? = some (cellRow x.k x.v (.slice x.A x.n x.c)) := by rw [hw1, hg]; exact row_below (heap_alloc_new _ _) (below_new (Below.refl _ _) _)
  have r2 : w1.heap[g + 1]? = some (valRow ⟨0, 0, noS⟩) := by
    have := heap_alloc_new (w.alloc (cellRow x.k x.v (.slice x.A x.n x.c))) (valRow ⟨0, 0, noS⟩)
    rw [World.size_alloc, ← hg, ← hw1] at this; exact this
  obtain ⟨a0, a1, a2, a3, a4⟩ := cell_row5 r1
  obtain ⟨r, hr⟩ : ∃ r, Hid (x.right = r) := ⟨_, rfl⟩
  have C := Lib.hid (refRight8_any x.k x.v x.A x.n x.c w1)
  rw [show rightN x.k x.v x.n = r from hr.out] at C
  obtain ⟨F, hF⟩ : ∃ F, Hid (showC x = F) := ⟨_, rfl⟩
  rw [hF.out]
  have HG := Lib.hid hg; have HW1 := Lib.hid hw1; have HB := Lib.hid b1; have R1 := Lib.hid r1; have R2 := Lib.hid r2
  clear hg hw1 b1 r1 r2
  go_enter Try.func41, Try.ntmps41
  go_upto_region 1 with fail
  rw [← HG.out]
  rw [show (w.alloc (cellRow x.k x.v (.slice x.A x.n x.c))).alloc (Obj.cells #[Value.int .i64 0, .int .i64 0, .string ⟨#[]⟩] 23) = w1 from HW1.out.symm]
  clear HW1
  go_wp2_with fail
  refine C.out.mono ?_
  rintro e w2 ⟨rfl, b2⟩
  have R3 := Lib.hid (row_below R2.out b2)
  obtain ⟨a0, a1, a2, a3, a4⟩ := cell_row5 (row_below R1.out b2)
  have hgw : Hid (w.heap.size ≤ g + 1) := by rw [HG.out]; exact Nat.le_succ _
  have B2 := Lib.hid (below_then HB.out b2)
  obtain ⟨e0, e1, e2⟩ := val_row R3.out
  have f1 := frozen_row R3.out
  dsimp only at e0 e1 e2
  clear b2 C R1 R2 HB
  by_cases h0 : r = 0
  · have hx : x.right = 0 := by rw [hr.out, h0]
    have HC : Hid (F = ⟨1, x.v.n, noS⟩) := by show _ = _; rw [← hF.out, showC, if_pos hx]; obtain ⟨_, h1, h2, _⟩ := right_n hx; exact v3_n h1 h2
    subst h0
    clear hr hF hx
    go_wp2_with fail
    refine bodyPost_ret (v := (⟨1, x.v.n, noS⟩ : V3).agg) (results_cell_row rfl _ _ (g + 1) 23 _ (0, 0) _ rfl (set3r R3.out) Try.underlying23 rfl (by kernel_rfl)) rfl ?_
    exact ⟨by rw [HC.out], ((B2.out.setCell hgw.out _).setCell hgw.out _).setCell hgw.out _⟩
  · have hx : ¬ x.right = 0 := by rw [hr.out]; exact h0
    have HC : Hid (F = ⟨0, 0, noS⟩) := by show _ = _; rw [← hF.out, showC, if_neg hx]
    clear hr hF hx
    go_wp2_with fail
    refine bodyPost_ret (v := (⟨0, 0, noS⟩ : V3).agg) (results_cell_row rfl _ _ (g + 1) 23 _ (0, 0) _ rfl (set3r R3.out) Try.underlying23 rfl (by kernel_rfl)) rfl ?_
    exact ⟨by rw [HC.out], ((B2.out.setCell hgw.out _).setCell hgw.out _).setCell hgw.out _⟩

end Go.Proofs.Ytieaobeidlhefaa
