/- Layer 5: vectors in plain mathematics: what they have of each place, what two come to. Of no program. -/
import Derived.Test.YtlgpijdemfccaaaMbBase
namespace Go.Proofs.Ytlgpijdemfccaaa
set_option maxRecDepth 100000

/-- what a vector has at a place; nothing behind its end -/
def ofN (l : List Int) (k : Nat) : Int := l.getD k 0
/-- what it has of a device -/
def ofV (l : List Int) (d : Int) : Int := if d < 1 then 0 else ofN l (d.toNat - 1)
/-- does it hold at each place of one of both -/
def allV (p : Int → Int → Bool) (a b : List Int) : Bool := (List.range (max a.length b.length)).all fun k => p (ofN a k) (ofN b k)
def sameV (a b : List Int) : Bool := allV (fun x y => decide (x = y)) a b
def uptoV (a b : List Int) : Bool := allV (fun x y => decide (x ≤ y)) a b
def okN (x : Int) : Bool := decide (0 ≤ x) && decide (x ≤ 1048576)
def rightV (l : List Int) : Bool := decide (l.length ≤ 64) && l.all okN
def endN (l : List Int) : Nat → Nat
  | 0 => 0
  | n + 1 => if ofN l n = 0 then endN l n else n + 1
def endV (l : List Int) : Nat := endN l l.length
def trimV (l : List Int) : List Int := l.take (endV l)
def rowV (n : Nat) (f : Nat → Int) : List Int := (List.range n).map f
def bothV (f : Int → Int → Int) (a b : List Int) : List Int := trimV (rowV (max a.length b.length) fun k => f (ofN a k) (ofN b k))
def joinV (a b : List Int) : List Int := bothV max a b
def meetV (a b : List Int) : List Int := bothV min a b
def setV (v : List Int) (d n : Int) : List Int := if d < 1 ∨ 64 < d then trimV v else trimV (rowV (max v.length d.toNat) fun k => if (k : Int) + 1 = d then n else ofN v k)
def hasV (v : List Int) (d s : Int) : Bool := decide (1 ≤ s) && decide (s ≤ ofV v d)
def totalV (l : List Int) : Int := l.foldl (· + ·) 0

theorem ofN_at {l : List Int} {k : Nat} {z : Int} (h : l[k]? = some z) : ofN l k = z := by simp [ofN, List.getD, h]
theorem ofN_lt {l : List Int} {k : Nat} (h : k < l.length) : ofN l k = l[k] := by simp [ofN, List.getD, List.getElem?_eq_getElem h]
theorem ofN_out {l : List Int} {k : Nat} (h : l.length ≤ k) : ofN l k = 0 := by simp [ofN, List.getD, List.getElem?_eq_none h]
theorem ofV_out {l : List Int} {d : Int} (h : d < 1 ∨ (l.length : Int) < d) : ofV l d = 0 := by
  unfold ofV; split
  · rfl
  · exact ofN_out (by omega)
theorem ofV_in {l : List Int} {d : Int} (h : 1 ≤ d) : ofV l d = ofN l (d.toNat - 1) := by unfold ofV; rw [if_neg (by omega)]
theorem ofV_nat (l : List Int) (k : Nat) : ofV l ((k : Int) + 1) = ofN l k := by
  rw [ofV_in (by omega), show ((k : Int) + 1).toNat - 1 = k by omega]

theorem allV_iff {p : Int → Int → Bool} (h0 : p 0 0 = true) (a b : List Int) : allV p a b = true ↔ ∀ k, p (ofN a k) (ofN b k) = true := by
  unfold allV
  rw [List.all_eq_true]
  constructor
  · intro h k
    by_cases hk : k < max a.length b.length
    · exact h k (List.mem_range.2 hk)
    · rw [ofN_out (by omega), ofN_out (by omega), h0]
  · intro h k _; exact h k
theorem sameV_iff (a b : List Int) : sameV a b = true ↔ ∀ k, ofN a k = ofN b k := by
  unfold sameV; rw [allV_iff (by simp)]; simp
theorem uptoV_iff (a b : List Int) : uptoV a b = true ↔ ∀ k, ofN a k ≤ ofN b k := by
  unfold uptoV; rw [allV_iff (by simp)]; simp
theorem right_one {p : Int → Int → Bool} {f : Int → Bool} (hp : ∀ x y, p x y = f x) (l : List Int) : allV p l [] = l.all f := by
  unfold allV
  simp only [List.length_nil, Nat.max_zero, hp]
  rw [Bool.eq_iff_iff, List.all_eq_true, List.all_eq_true]
  constructor
  · intro h x hx
    obtain ⟨k, hk, rfl⟩ := List.mem_iff_getElem.1 hx
    have := h k (List.mem_range.2 hk)
    rwa [ofN_lt hk] at this
  · intro h k hk
    have hk := List.mem_range.1 hk
    rw [ofN_lt hk]
    exact h _ (List.getElem_mem hk)

theorem endN_le (l : List Int) : ∀ n, endN l n ≤ n
  | 0 => Nat.le_refl _
  | n + 1 => by unfold endN; split; exact Nat.le_succ_of_le (endN_le l n); exact Nat.le_refl _
theorem endV_le (l : List Int) : endV l ≤ l.length := endN_le l _
theorem endN_zero (l : List Int) : ∀ n k, endN l n ≤ k → k < n → ofN l k = 0
  | 0, _, _, h => by omega
  | n + 1, k, h1, h2 => by
    unfold endN at h1
    split at h1
    · rename_i h0
      rcases Nat.lt_or_ge k n with h | h
      · exact endN_zero l n k h1 h
      · obtain rfl : k = n := by omega
        exact h0
    · omega
theorem endN_last (l : List Int) : ∀ n, 0 < endN l n → ofN l (endN l n - 1) ≠ 0
  | 0, h => by simp [endN] at h
  | n + 1, h => by
    unfold endN at h ⊢
    split
    · rename_i h0
      rw [if_pos h0] at h
      exact endN_last l n h
    · rename_i h0
      simpa using h0
theorem trimV_len (l : List Int) : (trimV l).length = endV l := by
  unfold trimV; rw [List.length_take]; have := endV_le l; omega
theorem trimV_len_le (l : List Int) : (trimV l).length ≤ l.length := by rw [trimV_len]; exact endV_le l
theorem ofN_trim (l : List Int) (k : Nat) : ofN (trimV l) k = ofN l k := by
  by_cases h : k < endV l
  · have hl := endV_le l
    rw [ofN_lt (by rw [trimV_len]; exact h), ofN_lt (by omega)]
    simp [trimV]
  · rw [ofN_out (by rw [trimV_len]; omega)]
    by_cases hk : k < l.length
    · exact (endN_zero l l.length k (by unfold endV at h; omega) hk).symm
    · rw [ofN_out (by omega)]
theorem trimV_last (l : List Int) (h : 0 < (trimV l).length) : ofN (trimV l) ((trimV l).length - 1) ≠ 0 := by
  rw [ofN_trim, trimV_len]
  rw [trimV_len] at h
  exact endN_last l l.length h
theorem rowV_len (n : Nat) (f : Nat → Int) : (rowV n f).length = n := by simp [rowV]
theorem ofN_row (n : Nat) (f : Nat → Int) (k : Nat) : ofN (rowV n f) k = if k < n then f k else 0 := by
  split
  · rename_i h
    rw [ofN_lt (by rw [rowV_len]; exact h)]; simp [rowV]
  · rename_i h
    exact ofN_out (by rw [rowV_len]; omega)
theorem ofN_both {f : Int → Int → Int} (h0 : f 0 0 = 0) (a b : List Int) (k : Nat) : ofN (bothV f a b) k = f (ofN a k) (ofN b k) := by
  unfold bothV
  rw [ofN_trim, ofN_row]
  split
  · rfl
  · rw [ofN_out (by omega), ofN_out (by omega), h0]
theorem ofN_join (a b : List Int) (k : Nat) : ofN (joinV a b) k = max (ofN a k) (ofN b k) := ofN_both (by simp) a b k
theorem ofN_meet (a b : List Int) (k : Nat) : ofN (meetV a b) k = min (ofN a k) (ofN b k) := ofN_both (by simp) a b k
theorem ofN_set (v : List Int) (d n : Int) (k : Nat) : ofN (setV v d n) k = if (k : Int) + 1 = d ∧ d ≤ 64 then n else ofN v k := by
  unfold setV
  split
  · rw [ofN_trim, if_neg (by omega)]
  · rename_i h
    rw [ofN_trim, ofN_row]
    by_cases h1 : (k : Int) + 1 = d
    · rw [if_pos (show k < max v.length d.toNat by omega), if_pos h1, if_pos ⟨h1, by omega⟩]
    · rw [if_neg h1, if_neg (fun h2 : (k : Int) + 1 = d ∧ d ≤ 64 => h1 h2.1)]
      by_cases hk : k < max v.length d.toNat
      · rw [if_pos hk]
      · rw [if_neg hk, ofN_out (by omega)]
theorem ofV_set (v : List Int) (d n e : Int) : ofV (setV v d n) e = if e = d ∧ 1 ≤ e ∧ e ≤ 64 then n else ofV v e := by
  by_cases h : e < 1
  · rw [ofV_out (.inl h), ofV_out (.inl h), if_neg (by omega)]
  · rw [ofV_in (by omega), ofN_set, ofV_in (by omega)]
    by_cases h2 : e = d ∧ 1 ≤ e ∧ e ≤ 64
    · rw [if_pos h2, if_pos (by omega)]
    · rw [if_neg h2, if_neg (by omega)]
theorem bothV_len (f : Int → Int → Int) (a b : List Int) : (bothV f a b).length ≤ max a.length b.length := by
  unfold bothV; exact Nat.le_trans (trimV_len_le _) (by rw [rowV_len]; exact Nat.le_refl _)
theorem setV_len (v : List Int) (d n : Int) : (setV v d n).length ≤ max v.length 64 := by
  unfold setV; split
  · exact Nat.le_trans (trimV_len_le _) (by omega)
  · exact Nat.le_trans (trimV_len_le _) (by rw [rowV_len]; omega)
theorem setV_last (v : List Int) (d n : Int) (h : 0 < (setV v d n).length) : ofN (setV v d n) ((setV v d n).length - 1) ≠ 0 := by
  unfold setV at h ⊢
  split
  · rename_i hh
    rw [if_pos hh] at h
    exact trimV_last _ h
  · rename_i hh
    rw [if_neg hh] at h
    exact trimV_last _ h
/-- two trimmed ones that have the same are the same -/
theorem sameV_refl (a : List Int) : sameV a a = true := (sameV_iff a a).2 fun _ => rfl
theorem sameV_of {a b : List Int} (h : ∀ k, ofN a k = ofN b k) : sameV a b = true := (sameV_iff a b).2 h
end Go.Proofs.Ytlgpijdemfccaaa

