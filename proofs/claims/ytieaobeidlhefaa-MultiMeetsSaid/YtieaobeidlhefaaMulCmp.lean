/- Layer 7: how two dots stand to one another: the code's compare, the document's Above. -/
import Derived.Test.YtieaobeidlhefaaMulEq
import Derived.Deep.RegionHeld3
import Derived.Deep.QuietTactic
import Derived.BigQuiet
import Derived.Laws.NewBlocks
namespace Go.Proofs.Ytieaobeidlhefaa
set_option maxRecDepth 100000
open Go.RowKit

theorem isNaN_any (x : Int) (w : World) : Calls Try.prog 90 #[.int .i64 x] w fun e w' => e = .returned (.bool false) ∧ w' = w := by
  go_enter Try.func90, Try.ntmps90
  go_wp2
  go_ret
  exact ⟨by simp, rfl⟩

theorem cmpCompare_any (x y : Int) (w : World) : Calls Try.prog 80 #[.int .i64 x, .int .i64 y] w fun e w' => e = .returned (.int .i64 (sgnI x y)) ∧ w' = w := by
  have P := Lib.hid (fun z : Int => isNaN_any z)
  rcases Int.lt_trichotomy x y with h | h | h
  · have hr := Lib.hid (show sgnI x y = -1 by simp [sgnI, h])
    go_enter Try.func80, Try.ntmps80
    go_wp2_with (go_at_call 90; refine (P.out _ _).mono ?_; rintro e w' ⟨rfl, rfl⟩)
    go_ret
    exact ⟨by rw [hr.out]; rfl, rfl⟩
  · subst h
    have hr := Lib.hid (show sgnI x x = 0 by simp [sgnI])
    go_enter Try.func80, Try.ntmps80
    go_wp2_with (go_at_call 90; refine (P.out _ _).mono ?_; rintro e w' ⟨rfl, rfl⟩)
    go_ret
    exact ⟨by rw [hr.out]; rfl, rfl⟩
  · have h2 : ¬ x < y := by omega
    have hr := Lib.hid (show sgnI x y = 1 by simp [sgnI, h2, h])
    go_enter Try.func80, Try.ntmps80
    go_wp2_with (go_at_call 90; refine (P.out _ _).mono ?_; rintro e w' ⟨rfl, rfl⟩)
    go_ret
    exact ⟨by rw [hr.out]; rfl, rfl⟩

/-- the first of two numbers that is not 0 -/
def orI (x y : Int) : Int := if x = 0 then y else x
theorem cmpD_or (a b : D2) : cmpD a b = orI (sgnI a.d b.d) (sgnI a.s b.s) := rfl

abbrev twoCells (x y : Int) : Obj := .cells #[.int .i64 x, .int .i64 y] 3
theorem cmpOr_any (x y : Int) (w : World) (b : Nat) (h : w.heap[b]? = some (twoCells x y)) :
    Calls Try.prog 79 #[.slice (some ⟨b, 0, none⟩) 2 2] w fun e w' => e = .returned (.int .i64 (orI x y)) ∧ w' = w := by
  have c0 := cell_row h 0; have c1 := cell_row h 1
  simp only [List.getElem?_toArray, List.getElem?_cons_zero, List.getElem?_cons_succ] at c0 c1
  obtain ⟨r, hr⟩ : ∃ r, Hid (orI x y = r) := ⟨_, rfl⟩
  rw [hr.out]
  clear h
  go_enter Try.func79, Try.ntmps79
  go_wp2_with fail
  go_loopw [8] (fun i wr => ∃ k : Nat, k ≤ 2 ∧ i = .int .i64 k ∧ Hid (0 < k → x = 0) ∧ Hid (1 < k → y = 0) ∧ wr = w) (fun i _ => 2 - (intOf i).toNat)
  case atStart => exact ⟨0, by omega, rfl, fun h => by omega, fun h => by omega, rfl⟩
  case round =>
    obtain ⟨k, hk, rfl, hx, hy, rfl⟩ := hrel
    rcases (show k = 0 ∨ k = 1 ∨ k = 2 by omega) with rfl | rfl | rfl
    · by_cases h0 : x = 0
      · obtain rfl := h0
        go_wp2
        exact ⟨⟨1, by omega, rfl, fun _ => by trivial, fun h => by omega, by trivial⟩, by simp [intOf]⟩
      · have hb : (x == 0) = false := by simpa using h0
        have hr2 : Hid (x = r) := by show _ = _; rw [← hr.out, orI, if_neg h0]
        go_wp2
        go_ret
        exact ⟨ret_int hr2.out, rfl⟩
    · have hxx := hx.out (by omega)
      by_cases h0 : y = 0
      · obtain rfl := h0
        go_wp2
        exact ⟨⟨2, by omega, rfl, fun _ => hxx, fun _ => by trivial, by trivial⟩, by simp [intOf]⟩
      · have hb : (y == 0) = false := by simpa using h0
        have hr2 : Hid (y = r) := by show _ = _; rw [← hr.out, orI, if_pos hxx]
        clear hxx
        go_wp2
        go_ret
        exact ⟨ret_int hr2.out, rfl⟩
    · have hr2 : Hid (0 = r) := by show _ = _; rw [← hr.out, orI, if_pos (hx.out (by omega)), hy.out (by omega)]
      go_wp2
      go_ret
      exact ⟨ret_int hr2.out, rfl⟩

abbrev dotRow (a : D2) : Obj := .cells #[.int .i64 a.d, .int .i64 a.s] 30
theorem dot_row {w : World} {g : Nat} {x : D2} (h : w.heap[g]? = some (dotRow x)) : w.cell? ⟨g, 0, none⟩ = some (.int .i64 x.d) ∧ w.cell? ⟨g, 1, none⟩ = some (.int .i64 x.s) := by
  have h2 := cell_row h
  refine ⟨?_, ?_⟩ <;> (rw [h2]; rfl)

set_option maxHeartbeats 1600000 in
theorem compare_any (a b : D2) (w : World) : Calls Try.prog 52 #[a.agg, b.agg] w fun e w' => e = .returned (.int .i64 (cmpD a b)) ∧ Grown w w' := by
  have P := Lib.hid (fun x y => cmpCompare_any x y)
  have OR := Lib.hid (fun (x y : Int) (W : World) => cmpOr_any x y (W.alloc (twoCells x y)).drew W.heap.size (row_drew (heap_alloc_new _ _)))
  have hg0 := ((Grown.refl w).alloc (dotRow a)).alloc (dotRow b)
  have hA := dot_row (show ((w.alloc (dotRow a)).alloc (dotRow b)).heap[w.heap.size]? = some (dotRow a) by rw [Below.heap_alloc _ _ _ (by simp)]; exact heap_alloc_new _ _)
  have hB := dot_row (show ((w.alloc (dotRow a)).alloc (dotRow b)).heap[w.heap.size + 1]? = some (dotRow b) by
    have := heap_alloc_new (w.alloc (dotRow a)) (dotRow b)
    rwa [World.size_alloc] at this)
  obtain ⟨c0, c1⟩ := hA; obtain ⟨c2, c3⟩ := hB
  obtain ⟨w1, hw1⟩ : ∃ w1, w1 = (w.alloc (dotRow a)).alloc (dotRow b) := ⟨_, rfl⟩
  rw [← hw1] at hg0 c0 c1 c2 c3
  have K : Hid (∀ W, Grown w1 W → W.cell? ⟨w.heap.size, 0, none⟩ = some (.int .i64 a.d) ∧ W.cell? ⟨w.heap.size, 1, none⟩ = some (.int .i64 a.s) ∧ W.cell? ⟨w.heap.size + 1, 0, none⟩ = some (.int .i64 b.d) ∧ W.cell? ⟨w.heap.size + 1, 1, none⟩ = some (.int .i64 b.s)) := by
    intro W hW
    have h1 : w.heap.size < w1.heap.size := by rw [hw1]; simp; omega
    have h2 : w.heap.size + 1 < w1.heap.size := by rw [hw1]; simp
    exact ⟨(hW.below.cell (p := ⟨_, 0, none⟩) h1).trans c0, (hW.below.cell (p := ⟨_, 1, none⟩) h1).trans c1, (hW.below.cell (p := ⟨_, 0, none⟩) h2).trans c2, (hW.below.cell (p := ⟨_, 1, none⟩) h2).trans c3⟩
  have hg1 := (Grown.refl w1).drew
  have HG0 := Lib.hid hg0
  clear hg0
  go_enter Try.func52, Try.ntmps52
  go_wp2_with fail
  rw [← hw1]
  clear hw1
  go_region_held3 (fun W => Grown w1 W ∧ W.cell? ⟨w.heap.size, 0, none⟩ = some (.int .i64 a.d) ∧ W.cell? ⟨w.heap.size, 1, none⟩ = some (.int .i64 a.s) ∧ W.cell? ⟨w.heap.size + 1, 0, none⟩ = some (.int .i64 b.d) ∧ W.cell? ⟨w.heap.size + 1, 1, none⟩ = some (.int .i64 b.s))
    (first
      | (refine ⟨?_, K.out _ ?_⟩ <;> (go_split_ands; (first | assumption | exact Grown.alloc (by assumption) _))))
    (first
      | (go_at_call 80; refine (P.out _ _ _).mono ?_; rintro e wx ⟨rfl, rfl⟩)
      | (go_at_call 79; refine (OR.out _ _ _).mono ?_; rintro e wx ⟨rfl, rfl⟩))
  all_goals
    go_wp2
    go_ret
    exact ⟨rfl, Grown.trans HG0.out (Grown.drew (Grown.alloc (Grown.refl _) _))⟩

set_option maxHeartbeats 800000 in
theorem above_any (a b : D2) (w : World) : Calls Try.prog 53 #[a.agg, b.agg] w fun e w' => e = .returned (.bool (aboveD a b)) ∧ Below w.heap.size w w' := by
  have hg0 := below_new (below_new (Below.refl w.heap.size w) (dotRow a)) (dotRow b)
  have hA := dot_row (show ((w.alloc (dotRow a)).alloc (dotRow b)).heap[w.heap.size]? = some (dotRow a) by rw [Below.heap_alloc _ _ _ (by simp)]; exact heap_alloc_new _ _)
  have hB := dot_row (show ((w.alloc (dotRow a)).alloc (dotRow b)).heap[w.heap.size + 1]? = some (dotRow b) by
    have := heap_alloc_new (w.alloc (dotRow a)) (dotRow b)
    rwa [World.size_alloc] at this)
  obtain ⟨c0, c1⟩ := hA; obtain ⟨c2, c3⟩ := hB
  obtain ⟨r, hr⟩ : ∃ r, Hid (aboveD a b = r) := ⟨_, rfl⟩
  rw [hr.out]
  have HG0 := Lib.hid hg0
  clear hg0
  rcases Decidable.em (b.d < a.d) with h1 | h1
  · have HR : Hid (true = r) := by show _ = _; rw [← hr.out, aboveD]; simp [h1]
    go_enter Try.func53, Try.ntmps53
    go_wp2
    go_ret
    exact ⟨ret_bool HR.out, HG0.out⟩
  · rcases Decidable.em (a.d = b.d) with h2 | h2
    · have HR : Hid (decide (b.s < a.s) = r) := by show _ = _; rw [← hr.out, aboveD]; simp [h2]
      obtain ⟨ad, az⟩ := a; obtain ⟨bd, bs⟩ := b
      simp only at h2
      subst h2
      go_enter Try.func53, Try.ntmps53
      go_wp2
      all_goals go_ret
      all_goals exact ⟨ret_bool HR.out, HG0.out⟩
    · have hne : (a.d == b.d) = false := by simpa using h2
      have HR : Hid (false = r) := by show _ = _; rw [← hr.out, aboveD]; simp [h1, h2]
      go_enter Try.func53, Try.ntmps53
      go_wp2
      go_ret
      exact ⟨ret_bool HR.out, HG0.out⟩
end Go.Proofs.Ytieaobeidlhefaa
