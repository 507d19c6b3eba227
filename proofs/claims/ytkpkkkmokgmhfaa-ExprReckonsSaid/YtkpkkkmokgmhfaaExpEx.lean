/- Layer 12: the chapter's examples, reckoned. -/
import Derived.Test.YtkpkkkmokgmhfaaExpAl
namespace Go.Proofs.Ytkpkkkmokgmhfaa
set_option maxRecDepth 100000
open Go.RowKit Go.MapKept

theorem may_n (n : Int) (h : -1099511627776 ≤ n ∧ n ≤ 1099511627776) : mayV (numV n) = true := may_numV h.1 h.2
theorem amiss_two {k : Int} {A : Option Addr} {x y : E6} (hk : 2 ≤ k ∧ k ≤ 8) (hx : x.of = [] ∧ form1 x = true) (hy : y.of = [] ∧ form1 y = true) : amissE (twoE k A x y) = 0 := by
  have h1 : withinB 20 (twoE k A x y) = true := by simp [withinB, hx.1, hy.1]
  have h2 : everyB form1 20 (twoE k A x y) = true := by
    simp only [everyB, List.all_cons, List.all_nil, hx.1, hy.1, hx.2, hy.2, Bool.and_true]
    rw [form1, if_neg (by show ¬ k = 0; omega), if_neg (by show ¬ k = 1; omega), if_pos (show 2 ≤ k ∧ k ≤ 10 by omega)]
    have hm : manyZ k = 2 := by rw [manyZ, if_neg (by omega)]
    simp [hm]
  rw [amissE, if_pos h1, if_pos h2]
theorem form_num {n : Int} (h : -1099511627776 ≤ n ∧ n ≤ 1099511627776) : form1 (numE n) = true := by
  have := may_n n h
  simp [form1, this]
theorem form_col : form1 (leafE 0 0 v0) = true := by simp [form1]
theorem form_nil : form1 (leafE 1 0 v0) = true := by simp [form1, may_v0]
theorem eval_two {k : Int} {A : Option Addr} {x y : E6} {row : List V3} {a b : V3} (hk : 2 ≤ k ∧ k ≤ 8) (hx : x.of = [] ∧ form1 x = true) (hy : y.of = [] ∧ form1 y = true) (h1 : saysN 19 row x = (a, 0)) (h2 : saysN 19 row y = (b, 0)) :
    evalE (twoE k A x y) row = if gets3 k a.k b.k = true then saysO k a b else (v0, 6) := by
  rw [evalE, if_pos (amiss_two hk hx hy), saysN, if_neg (by show ¬ k = 0; omega), if_neg (by show ¬ k = 1; omega)]
  simp only [List.map_cons, List.map_nil, h1, h2, err1, if_true, at2]
  rfl
theorem says_lit (row : List V3) (v : V3) : saysN 19 row (leafE 1 0 v) = (v, 0) := rfl
theorem says_col (v : V3) : saysN 19 [v] (leafE 0 0 v0) = (v, 0) := by
  rw [saysN, if_pos rfl, if_pos (by show (0 : Int) < 1; decide)]; rfl
theorem ex_a (A : Option Addr) (n : Int) : evalE (twoE 6 A (leafE 0 0 v0) (numE 5)) [numV n] = (truthV (decide (n < 5)), 0) := by
  rw [eval_two (by decide) ⟨rfl, form_col⟩ ⟨rfl, form_num (by decide)⟩ (says_col _) (says_lit _ _)]; rfl
theorem ex_b (A : Option Addr) : evalE (twoE 6 A (leafE 0 0 v0) (numE 5)) [v0] = (v0, 0) := by
  rw [eval_two (by decide) ⟨rfl, form_col⟩ ⟨rfl, form_num (by decide)⟩ (says_col _) (says_lit _ _)]; rfl
theorem ex_c (A : Option Addr) : evalE (twoE 7 A (leafE 1 0 v0) (numE 0)) [] = (numV 0, 0) := by
  rw [eval_two (by decide) ⟨rfl, form_nil⟩ ⟨rfl, form_num (by decide)⟩ (says_lit _ _) (says_lit _ _)]; rfl
theorem ex_d (A : Option Addr) : evalE (twoE 2 A (numE 1099511627776) (numE 1)) [] = (v0, 20) := by
  rw [eval_two (by decide) ⟨rfl, form_num (by decide)⟩ ⟨rfl, form_num (by decide)⟩ (says_lit _ _) (says_lit _ _)]; rfl
theorem ex_t (A : Option Addr) : typeE (twoE 6 A (leafE 0 0 v0) (numE 5)) [1] = (1, 0) := by
  rw [typeE, if_pos (amiss_two (by decide) ⟨rfl, form_col⟩ ⟨rfl, form_num (by decide)⟩)]; rfl
theorem eval_is {e : E6} {A : Option Addr} {n c : Nat} {row : List V3} {w : World} (h : ReadsE w e) (hks : RdV w A n c row) (hm : ∀ v ∈ row, mayV v = true) {v : V3} {er : Int} (he : evalE e row = (v, er)) : Calls Try.prog 11 #[e.agg, .slice A n c] w fun r w' => r = .returned (.tuple #[.agg #[.int .i64 v.k, .int .i64 v.n, .string v.s], .int .i64 er]) ∧ Below w.heap.size w w' := by
  have := eval_any e A n c row w h hks hm
  rw [he] at this; exact this
theorem rdV_one {w : World} {g : Nat} {v : V3} (h : w.heap[g]? = some (valBox v)) : RdV w (some ⟨g, 0, none⟩) 1 1 [v] := by
  refine ⟨rfl, Nat.le_refl _, by decide, fun _ => ⟨g, 0, rfl, (Array.getElem?_eq_some_iff.1 h).1, fun j hj i x hv => ?_⟩⟩
  rw [cell_row h]
  match j, hj with
  | 0, _ => simp only [List.getElem_cons_zero] at hv; match i, hv with
    | 0, hv => exact hv
    | 1, hv => exact hv
    | 2, hv => exact hv
    | i + 3, hv => simp [V3.cells] at hv
  | j + 1, hj => exact absurd hj (by simp)
theorem rdI_one {w : World} {g : Nat} {z : Int} {t : TypeId} (h : w.heap[g]? = some (.cells #[.int .i64 z] t)) : Rd w (some ⟨g, 0, none⟩) 1 1 (vals .i64 [z]) := by
  refine ⟨rfl, Nat.le_refl _, by decide, fun _ => ⟨g, 0, rfl, (Array.getElem?_eq_some_iff.1 h).1, fun j hj => ?_⟩⟩
  rw [cell_row h]
  match j, hj with
  | 0, _ => rfl
  | j + 1, hj => exact absurd hj (by simp)
end Go.Proofs.Ytkpkkkmokgmhfaa
