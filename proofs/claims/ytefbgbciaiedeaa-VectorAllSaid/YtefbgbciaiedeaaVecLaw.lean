/- Layer 5: what two vectors come to, named ahead of a walk. -/
import Derived.Test.YtefbgbciaiedeaaVecIs
import Derived.Test.YtefbgbciaiedeaaStruct
namespace Go.Proofs.Ytefbgbciaiedeaa
set_option maxRecDepth 100000
open Go.RowKit

theorem named_join (a b : List Int) (ha : a.length ≤ 4294967296) (hb : b.length ≤ 4294967296) : ∃ (r : List Int) (k : Nat), Hid (joinV a b = r) ∧ Hid (r.length = k) ∧ k ≤ 4294967296 ∧ Hid (∀ i, ofN r i = max (ofN a i) (ofN b i)) :=
  ⟨_, _, rfl, rfl, Nat.le_trans (bothV_len max a b) (by omega), fun i => ofN_join a b i⟩
theorem named_meet (a b : List Int) (ha : a.length ≤ 4294967296) (hb : b.length ≤ 4294967296) : ∃ (r : List Int) (k : Nat), Hid (meetV a b = r) ∧ Hid (r.length = k) ∧ k ≤ 4294967296 ∧ Hid (∀ i, ofN r i = min (ofN a i) (ofN b i)) :=
  ⟨_, _, rfl, rfl, Nat.le_trans (bothV_len min a b) (by omega), fun i => ofN_meet a b i⟩
theorem order_join (a b : List Int) : sameV (joinV a b) b = uptoV a b := by
  rw [Bool.eq_iff_iff, sameV_iff, uptoV_iff]
  exact forall_congr' fun i => by rw [ofN_join]; omega
theorem order_meet (a b : List Int) : sameV (meetV a b) a = uptoV a b := by
  rw [Bool.eq_iff_iff, sameV_iff, uptoV_iff]
  exact forall_congr' fun i => by rw [ofN_meet]; omega
theorem order_same (a b : List Int) : (uptoV a b && uptoV b a) = sameV a b := by
  rw [Bool.eq_iff_iff, Bool.and_eq_true, sameV_iff, uptoV_iff, uptoV_iff, ← forall_and]
  exact forall_congr' fun i => by omega
theorem order_trans {a b c : List Int} (h1 : uptoV a b = true) (h2 : uptoV b c = true) : uptoV a c = true := by
  rw [uptoV_iff] at *
  exact fun i => Int.le_trans (h1 i) (h2 i)
theorem pair_at {w : World} {g : Nat} {x y : Value} {t : TypeId} {fr : Nat × Nat} (h : w.heap[g]? = some (.cells #[x, y] t fr)) : w.cell? ⟨g, 0, none⟩ = some x ∧ w.cell? ⟨g, 1, none⟩ = some y := by
  have h0 := cell_row h 0; have h1 := cell_row h 1
  simp only [List.getElem?_toArray, List.getElem?_cons_zero, List.getElem?_cons_succ] at h0 h1
  exact ⟨h0, h1⟩
theorem set_of_here {a : List Int} {u v : Int} (h1 : 1 ≤ u) (h2 : u ≤ 64) : ofV (setV a u v) u = v := by rw [ofV_set, if_pos ⟨rfl, h1, h2⟩]
theorem set_of_else {a : List Int} {u v e : Int} (h : ¬ (e = u ∧ 1 ≤ e ∧ e ≤ 64)) : ofV (setV a u v) e = ofV a e := by rw [ofV_set, if_neg h]
theorem ofV_join (a b : List Int) (d : Int) : ofV (joinV a b) d = max (ofV a d) (ofV b d) := by
  by_cases h : d < 1
  · rw [ofV_out (.inl h), ofV_out (.inl h), ofV_out (.inl h)]; rfl
  · rw [ofV_in (by omega), ofV_in (by omega), ofV_in (by omega), ofN_join]
theorem ofV_meet (a b : List Int) (d : Int) : ofV (meetV a b) d = min (ofV a d) (ofV b d) := by
  by_cases h : d < 1
  · rw [ofV_out (.inl h), ofV_out (.inl h), ofV_out (.inl h)]; rfl
  · rw [ofV_in (by omega), ofV_in (by omega), ofV_in (by omega), ofN_meet]
theorem hasV_iff (a : List Int) (d s : Int) : hasV a d s = true ↔ 1 ≤ s ∧ s ≤ ofV a d := by simp [hasV]
theorem has_join (a b : List Int) (d s : Int) : hasV (joinV a b) d s = (hasV a d s || hasV b d s) := by
  rw [Bool.eq_iff_iff, Bool.or_eq_true, hasV_iff, hasV_iff, hasV_iff, ofV_join]; omega
theorem has_meet (a b : List Int) (d s : Int) : hasV (meetV a b) d s = (hasV a d s && hasV b d s) := by
  rw [Bool.eq_iff_iff, Bool.and_eq_true, hasV_iff, hasV_iff, hasV_iff, ofV_meet]; omega
theorem has_upto {a b : List Int} {d s : Int} (h : uptoV a b = true) (hx : hasV a d s = true) : hasV b d s = true := by
  rw [hasV_iff] at *
  have h1 := (uptoV_iff a b).1 h (d.toNat - 1)
  have h2 : ¬ d < 1 := fun e => by rw [ofV_out (.inl e)] at hx; omega
  rw [ofV_in (by omega)] at hx ⊢
  omega
end Go.Proofs.Ytefbgbciaiedeaa
