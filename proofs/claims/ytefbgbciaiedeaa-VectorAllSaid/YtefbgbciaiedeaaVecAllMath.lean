/- Layer 5: what comes of a vector to which the lacked dots are put one by one, in plain mathematics. -/
import Derived.Test.YtefbgbciaiedeaaVecLaw
namespace Go.Proofs.Ytefbgbciaiedeaa
set_option maxRecDepth 100000
open Go.RowKit

/-- how many are lacked of the first i devices -/
def lackG (a b : List Int) (i : Nat) : Nat := (lackN a b i).length
theorem lackG_zero (a b : List Int) : lackG a b 0 = 0 := by simp [lackG, lackN]
theorem lackG_succ (a b : List Int) (i : Nat) : lackG a b (i + 1) = lackG a b i + lackM a b i := lackN_len a b i
theorem lackG_mono (a b : List Int) {i j : Nat} (h : i ≤ j) : lackG a b i ≤ lackG a b j := by
  induction j with
  | zero =>
    have h0 : i = 0 := by omega
    rw [h0]
    exact Nat.le_refl _
  | succ j ih =>
    rcases Nat.lt_or_ge i (j + 1) with h1 | h1
    · have := ih (by omega); rw [lackG_succ]; omega
    · have h0 : i = j + 1 := by omega
      rw [h0]
      exact Nat.le_refl _

/-- each lacked dot is one of a device's -/
theorem lack_at (a b : List Int) : ∀ (n k : Nat), k < lackG a b n → ∃ i j, i < n ∧ j < lackM a b i ∧ k = lackG a b i + j ∧ (lackN a b n)[k]? = some ⟨(i : Int) + 1, ofN a i + 1 + (j : Int)⟩
  | 0, k, h => by rw [lackG_zero] at h; omega
  | n + 1, k, h => by
    rcases Nat.lt_or_ge k (lackG a b n) with h1 | h1
    · obtain ⟨i, j, hi, hj, hk, hx⟩ := lack_at a b n k h1
      exact ⟨i, j, by omega, hj, hk, by rw [lackN_succ, List.getElem?_append_left (by exact h1)]; exact hx⟩
    · rw [lackG_succ] at h
      refine ⟨n, k - lackG a b n, by omega, by omega, by omega, ?_⟩
      rw [lackN_succ, List.getElem?_append_right (by exact h1)]
      show (lackJ a n (lackM a b n))[k - lackG a b n]? = _
      rw [lackJ, List.getElem?_map, List.getElem?_range (by omega)]
      rfl

/-- what a vector has behind the first k lacked dots -/
def lackC (a b : List Int) (k t : Nat) : Int := ofN a t + (min (lackM a b t) (k - lackG a b t) : Nat)
theorem lackC_zero (a b : List Int) (t : Nat) : lackC a b 0 t = ofN a t := by unfold lackC; omega
theorem lackC_here {a b : List Int} {k i j : Nat} (hk : k = lackG a b i + j) (hj : j < lackM a b i) : lackC a b k i = ofN a i + (j : Int) := by unfold lackC; omega
theorem lackC_next {a b : List Int} {k i j : Nat} (hk : k = lackG a b i + j) (hj : j < lackM a b i) (t : Nat) : lackC a b (k + 1) t = if t = i then ofN a i + 1 + (j : Int) else lackC a b k t := by
  by_cases ht : t = i
  · subst ht; rw [if_pos rfl]; unfold lackC; omega
  · rw [if_neg ht]
    unfold lackC
    rcases Nat.lt_or_ge t i with h | h
    · have h1 := lackG_mono a b (i := t + 1) (j := i) (by omega)
      rw [lackG_succ] at h1
      omega
    · have h1 := lackG_mono a b (i := i + 1) (j := t) (by omega)
      rw [lackG_succ] at h1
      omega
theorem lackC_end {a b : List Int} (ha : rightV a = true) (t : Nat) : lackC a b (lackG a b b.length) t = max (ofN a t) (ofN b t) := by
  have h0 := ((rightV_iff a).1 ha).2 t
  rcases Nat.lt_or_ge t b.length with h | h
  · have h1 := lackG_mono a b (i := t + 1) (j := b.length) (by omega)
    rw [lackG_succ] at h1
    unfold lackC lackM at *
    omega
  · have h1 : ofN b t = 0 := ofN_out h
    have h2 : lackM a b t = 0 := by unfold lackM; omega
    unfold lackC
    rw [h1, h2]; omega

/-- a lacked dot: the one has it not, the other one has it; it comes next, behind the one ahead of it -/
theorem lack_facts {a b : List Int} (ha : rightV a = true) (hb : rightV b = true) {k : Nat} (hk : k < lackG a b b.length) :
    ∃ (i : Nat) (s : Int), i < b.length ∧ (lackN a b b.length)[k]? = some ⟨(i : Int) + 1, s⟩ ∧ hasV a ((i : Int) + 1) s = false ∧ hasV b ((i : Int) + 1) s = true ∧ lackC a b k i = s - 1 ∧ 1 ≤ s ∧ s ≤ 1048576 ∧ (∀ t, lackC a b (k + 1) t = if t = i then s else lackC a b k t) ∧
      (∀ k1, k = k1 + 1 → ∃ d1 s1 : Int, (lackN a b b.length)[k1]? = some ⟨d1, s1⟩ ∧ ¬ (i : Int) + 1 < d1 ∧ ((i : Int) + 1 = d1 → ¬ s ≤ s1)) := by
  obtain ⟨i, j, hi, hj, hkk, hx⟩ := lack_at a b b.length k hk
  have h1 := ((rightV_iff a).1 ha).2 i
  have h2 := ((rightV_iff b).1 hb).2 i
  have hj2 : (j : Int) < ofN b i - ofN a i := by unfold lackM at hj; omega
  refine ⟨i, ofN a i + 1 + (j : Int), hi, hx, ?_, ?_, ?_, by omega, by omega, lackC_next hkk hj, ?_⟩
  · cases h : hasV a ((i : Int) + 1) (ofN a i + 1 + (j : Int)) with
    | false => rfl
    | true => rw [hasV_iff, ofV_nat] at h; omega
  · rw [hasV_iff, ofV_nat]; omega
  · rw [lackC_here hkk hj]; omega
  · intro k1 hk1
    obtain ⟨i1, j1, hi1, hj1, hkk1, hx1⟩ := lack_at a b b.length k1 (by omega)
    refine ⟨_, _, hx1, ?_, ?_⟩
    · intro hlt
      have h3 := lackG_mono a b (i := i + 1) (j := i1) (by omega)
      rw [lackG_succ] at h3
      omega
    · intro he hs
      obtain rfl : i = i1 := by omega
      omega

/-- the sum of the first places -/
def sumN (l : List Int) : Nat → Int
  | 0 => 0
  | n + 1 => sumN l n + ofN l n
theorem total_sum (l : List Int) : ∀ n, totalV (l.take n) = sumN l n
  | 0 => by simp [totalV, sumN]
  | n + 1 => by
    by_cases h : n < l.length
    · rw [total_take l n (List.getElem?_eq_getElem h), total_sum l n, sumN, ofN_lt h]
    · rw [sumN, ofN_out (by omega), ← total_sum l n, List.take_of_length_le (by omega), List.take_of_length_le (by omega)]; omega
theorem total_of (l : List Int) {n : Nat} (h : l.length ≤ n) : totalV l = sumN l n := by rw [← total_sum, List.take_of_length_le h]
theorem sum_join (a b : List Int) : ∀ n, (∀ t, 0 ≤ ofN a t) → sumN (joinV a b) n = sumN a n + (lackG a b n : Nat)
  | 0, _ => by simp [sumN, lackG_zero]
  | n + 1, h => by
    rw [sumN, sumN, sum_join a b n h, lackG_succ, ofN_join]
    unfold lackM
    have := h n
    omega
theorem lackG_flat {a b : List Int} (ha : rightV a = true) {n : Nat} (h : b.length ≤ n) : lackG a b n = lackG a b b.length := by
  induction n with
  | zero => obtain h0 : b.length = 0 := by omega
            rw [h0]
  | succ n ih =>
    rcases Nat.lt_or_ge b.length (n + 1) with h1 | h1
    · rw [lackG_succ, ih (by omega)]
      have h0 := ((rightV_iff a).1 ha).2 n
      have h2 : ofN b n = 0 := ofN_out (by omega)
      unfold lackM; omega
    · rw [show b.length = n + 1 by omega]
theorem join_total {a b : List Int} (ha : rightV a = true) (hb : rightV b = true) : totalV (joinV a b) = totalV a + (lackG a b b.length : Nat) := by
  have h1 := (rightV_iff a).1 ha; have h2 := (rightV_iff b).1 hb
  have h3 := bothV_len max a b
  rw [total_of (joinV a b) (n := 64) (by unfold joinV; omega), total_of a (n := 64) h1.1, sum_join a b 64 (fun t => (h1.2 t).1), lackG_flat ha h2.1]
theorem all_ok {l : List Int} (h : ∀ k, 0 ≤ ofN l k ∧ ofN l k ≤ 1048576) : l.all okN = true := by
  rw [List.all_eq_true]
  intro x hx
  obtain ⟨k, hk, rfl⟩ := List.mem_iff_getElem.1 hx
  have := h k
  rw [ofN_lt hk] at this
  exact (okN_iff _).2 this
theorem all_right {l : List Int} (h : rightV l = true) : l.all okN = true := all_ok ((rightV_iff l).1 h).2
theorem total_bound {l : List Int} (h : rightV l = true) : 0 ≤ totalV l ∧ totalV l ≤ 67108864 := by
  have h1 := total_le (all_right h) l.length
  rw [List.take_of_length_le (Nat.le_refl _)] at h1
  have := ((rightV_iff l).1 h).1
  omega
theorem join_ok {a b : List Int} (ha : rightV a = true) (hb : rightV b = true) : (joinV a b).all okN = true :=
  all_ok fun k => by
    have h1 := ((rightV_iff a).1 ha).2 k; have h2 := ((rightV_iff b).1 hb).2 k
    rw [ofN_join]; omega
end Go.Proofs.Ytefbgbciaiedeaa
