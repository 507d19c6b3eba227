/- Layers 2 and 3: the order of values, and of rows of values, is one. -/
import Derived.Test.YtijhcoidhlmecaaRowOrd
namespace Go.Proofs.Ytijhcoidhlmecaa
set_option maxRecDepth 100000
open Go.RowKit

theorem less_irr (k n : Int) (s : ByteArray) : lessZ k n s k n s = false := by
  simp [lessZ, List.lt_irrefl]
theorem less_asym {k n k' n' : Int} {s s' : ByteArray} (h : lessZ k n s k' n' s' = true) : lessZ k' n' s' k n s = false := by
  simp only [lessZ, Bool.or_eq_true, Bool.and_eq_true, decide_eq_true_eq] at h
  rw [Bool.eq_false_iff]
  intro h2
  simp only [lessZ, Bool.or_eq_true, Bool.and_eq_true, decide_eq_true_eq] at h2
  rcases h with (h | ⟨h, h3⟩) | ⟨⟨h, h3⟩, h4⟩ <;> rcases h2 with (g | ⟨g, g3⟩) | ⟨⟨g, g3⟩, g4⟩ <;> first | omega | exact absurd g4 (List.lt_asymm h4)
theorem less_trans {k n k' n' k2 n2 : Int} {s s' s2 : ByteArray} (h : lessZ k n s k' n' s' = true) (h2 : lessZ k' n' s' k2 n2 s2 = true) : lessZ k n s k2 n2 s2 = true := by
  simp only [lessZ, Bool.or_eq_true, Bool.and_eq_true, decide_eq_true_eq] at h h2 ⊢
  rcases h with (h | ⟨h, h3⟩) | ⟨⟨h, h3⟩, h4⟩ <;> rcases h2 with (g | ⟨g, g3⟩) | ⟨⟨g, g3⟩, g4⟩
  all_goals first | (left; left; omega) | (left; right; omega) | exact .inr ⟨⟨by omega, by omega⟩, List.lt_trans h4 g4⟩
theorem less_tot {k n k' n' : Int} {s s' : ByteArray} (h : lessZ k n s k' n' s' = false) (h2 : lessZ k' n' s' k n s = false) : sameZ k n s k' n' s' = true := by
  have key : ∀ {x : Bool}, x = false → x = true → False := fun a b => by rw [a] at b; cases b
  have hk : k = k' := by
    have a : ¬ k < k' := fun e => key h (by simp [lessZ, e])
    have b : ¬ k' < k := fun e => key h2 (by simp [lessZ, e])
    omega
  subst hk
  have hn : n = n' := by
    have a : ¬ n < n' := fun e => key h (by simp [lessZ, e])
    have b : ¬ n' < n := fun e => key h2 (by simp [lessZ, e])
    omega
  subst hn
  have hs : s = s' := by
    have a : ¬ s.data.toList < s'.data.toList := fun e => key h (by simp only [lessZ]; simp [e])
    have b : ¬ s'.data.toList < s.data.toList := fun e => key h2 (by simp only [lessZ]; simp [e])
    exact ByteArray.ext (Array.toList_inj.1 (List.le_antisymm (List.not_lt.1 b) (List.not_lt.1 a)))
  subst hs
  simp [sameZ]
theorem less_diff {k n k' n' : Int} {s s' : ByteArray} (h : lessZ k n s k' n' s' = true) : sameZ k n s k' n' s' = false := by
  rw [Bool.eq_false_iff]
  intro e
  simp only [sameZ, Bool.and_eq_true, decide_eq_true_eq] at e
  obtain ⟨⟨rfl, rfl⟩, rfl⟩ := e
  rw [less_irr] at h; cases h
theorem same_comm {k n k' n' : Int} {s s' : ByteArray} (h : sameZ k' n' s' k n s = false) : sameZ k n s k' n' s' = false := by
  rw [Bool.eq_false_iff] at h ⊢
  intro e
  apply h
  simp only [sameZ, Bool.and_eq_true, decide_eq_true_eq] at e ⊢
  exact ⟨⟨e.1.1.symm, e.1.2.symm⟩, e.2.symm⟩

theorem lessV_irr (x : V3) : lessV x x = false := less_irr _ _ _
theorem lessR_irr : ∀ a : List V3, lessR a a = false
  | [] => rfl
  | x :: a => by rw [lessR, if_pos ((sameV_iff x x).2 rfl)]; exact lessR_irr a
theorem lessR_asym : ∀ {a b : List V3}, lessR a b = true → lessR b a = false
  | [], [], h => by cases h
  | [], _ :: _, _ => rfl
  | _ :: _, [], h => by cases h
  | x :: a, y :: b, h => by
    rw [lessR] at h ⊢
    by_cases e : x = y
    · subst e
      rw [if_pos ((sameV_iff x x).2 rfl)] at h ⊢
      exact lessR_asym h
    · rw [if_neg (fun h => e ((sameV_iff _ _).1 h))] at h
      rw [if_neg (fun h => e ((sameV_iff _ _).1 h).symm)]
      exact less_asym h
theorem lessR_tot : ∀ {a b : List V3}, lessR a b = false → lessR b a = false → a = b
  | [], [], _, _ => rfl
  | [], _ :: _, h, _ => by cases h
  | _ :: _, [], _, h => by cases h
  | x :: a, y :: b, h, h2 => by
    rw [lessR] at h h2
    by_cases e : x = y
    · subst e
      rw [if_pos ((sameV_iff x x).2 rfl)] at h h2
      rw [lessR_tot h h2]
    · rw [if_neg (fun h => e ((sameV_iff _ _).1 h))] at h
      rw [if_neg (fun h => e ((sameV_iff _ _).1 h).symm)] at h2
      exact absurd ((sameV_iff x y).1 (less_tot h h2)) e
theorem lessR_trans : ∀ {a b c : List V3}, lessR a b = true → lessR b c = true → lessR a c = true
  | [], [], _, h, _ => by cases h
  | _ :: _, [], _, h, _ => by cases h
  | _, _ :: _, [], _, h => by cases h
  | [], _ :: _, _ :: _, _, _ => rfl
  | x :: a, y :: b, z :: c, h, h2 => by
    rw [lessR] at h h2 ⊢
    by_cases e : x = y
    · subst e
      rw [if_pos ((sameV_iff x x).2 rfl)] at h
      by_cases e2 : x = z
      · subst e2
        rw [if_pos ((sameV_iff x x).2 rfl)] at h2 ⊢
        exact lessR_trans h h2
      · rw [if_neg (fun h => e2 ((sameV_iff _ _).1 h))] at h2 ⊢
        exact h2
    · rw [if_neg (fun h => e ((sameV_iff _ _).1 h))] at h
      by_cases e2 : y = z
      · subst e2
        rw [if_neg (fun h => e ((sameV_iff _ _).1 h))]
        exact h
      · rw [if_neg (fun h => e2 ((sameV_iff _ _).1 h))] at h2
        have h3 : lessV x z = true := less_trans h h2
        by_cases e3 : x = z
        · subst e3
          rw [lessV_irr] at h3
          cases h3
        · rw [if_neg (fun h => e3 ((sameV_iff _ _).1 h))]
          exact h3

/-- how two rows stand to one another: one of three ways -/
theorem row_ways (a b : List V3) : (sameR a b = true ∧ lessR a b = false ∧ lessR b a = false) ∨ (sameR a b = false ∧ lessR a b = true ∧ lessR b a = false) ∨ (sameR a b = false ∧ lessR a b = false ∧ lessR b a = true) := by
  cases hs : sameR a b with
  | true =>
    rw [sameR_iff] at hs
    subst hs
    exact .inl ⟨rfl, lessR_irr a, lessR_irr a⟩
  | false =>
    cases h1 : lessR a b with
    | true => exact .inr (.inl ⟨rfl, rfl, lessR_asym h1⟩)
    | false =>
      cases h2 : lessR b a with
      | true => exact .inr (.inr ⟨rfl, rfl, rfl⟩)
      | false =>
        rw [(sameR_iff a b).2 (lessR_tot h1 h2)] at hs
        cases hs
end Go.Proofs.Ytijhcoidhlmecaa
