/- Layer 12: expressions as plain trees, what they say, their kinds. -/
import Derived.Test.YtkpkkkmokgmhfaaRowMem
import Derived.Test.YtkpkkkmokgmhfaaValEq
namespace Go.Proofs.Ytkpkkkmokgmhfaa
set_option maxRecDepth 100000
open Go.RowKit

instance : DecidableEq V3 := fun x y => decidable_of_iff (x.k = y.k ∧ x.n = y.n ∧ x.s = y.s) (by
  obtain ⟨a, b, c⟩ := x; obtain ⟨d, e, f⟩ := y; simp)
abbrev v0 : V3 := ⟨0, 0, ⟨#[]⟩⟩
instance inhV3e : Inhabited V3 := ⟨v0⟩
abbrev numV (n : Int) : V3 := ⟨1, n, ⟨#[]⟩⟩
def truthV (b : Bool) : V3 := numV (if b then 1 else 0)
theorem v3_ext {x y : V3} (h1 : x.k = y.k) (h2 : x.n = y.n) (h3 : x.s = y.s) : x = y := by
  obtain ⟨a, b, c⟩ := x; obtain ⟨d, e, f⟩ := y; simp_all
theorem sameV (x y : V3) : sameZ x.k x.n x.s y.k y.n y.s = decide (x = y) := by
  rw [sameZ]
  refine Bool.eq_iff_iff.2 ?_
  simp only [Bool.and_eq_true, decide_eq_true_eq]
  exact ⟨fun h => v3_ext h.1.1 h.1.2 h.2, fun h => by subst h; simp⟩

/-- which values may be -/
def mayV (v : V3) : Bool :=
  if v.k = 0 then decide (v.n = 0) && decide (v.s.size = 0)
  else if v.k = 1 then decide (v.s.size = 0) && (decide (-1099511627776 ≤ v.n) && decide (v.n ≤ 1099511627776))
  else if v.k = 2 then decide (v.n = 0) && decide (v.s.size ≤ 200) else false
theorem may_null {v : V3} (h : mayV v = true) (hk : v.k = 0) : v = v0 := by
  rw [mayV, if_pos hk] at h
  simp only [Bool.and_eq_true, decide_eq_true_eq] at h
  exact v3_ext hk h.1 (size_zero h.2)
theorem may_num {v : V3} (h : mayV v = true) (hk : v.k = 1) : v = numV v.n ∧ -1099511627776 ≤ v.n ∧ v.n ≤ 1099511627776 := by
  rw [mayV, if_neg (by omega), if_pos hk] at h
  simp only [Bool.and_eq_true, decide_eq_true_eq] at h
  exact ⟨v3_ext hk rfl (size_zero h.1), h.2⟩
theorem may_text {v : V3} (h : mayV v = true) (hk : v.k = 2) : v.n = 0 := by
  rw [mayV, if_neg (by omega), if_neg (by omega), if_pos hk] at h
  simp only [Bool.and_eq_true, decide_eq_true_eq] at h
  exact h.1
theorem may_kind {v : V3} (h : mayV v = true) : v.k = 0 ∨ v.k = 1 ∨ v.k = 2 := by
  rw [mayV] at h
  split at h
  · omega
  · split at h
    · omega
    · split at h
      · omega
      · cases h
theorem may_v0 : mayV v0 = true := by simp [mayV, ByteArray.size]
theorem may_numV {n : Int} (h1 : -1099511627776 ≤ n) (h2 : n ≤ 1099511627776) : mayV (numV n) = true := by
  simp [mayV, ByteArray.size, h1, h2]
theorem may_truth (b : Bool) : mayV (truthV b) = true := by cases b <;> exact may_numV (by decide) (by decide)
theorem truth_k (b : Bool) : (truthV b).k = 1 := rfl

/-- an expression, and where its parts lie -/
structure E6 where
  k : Int
  n : Int
  v : V3
  a : Option Addr
  m : Nat
  c : Nat
  of : List E6
instance : Inhabited E6 := ⟨⟨0, 0, v0, none, 0, 0, []⟩⟩
def E6.cells (e : E6) : List Value := [.int .i64 e.k, .int .i64 e.n, .int .i64 e.v.k, .int .i64 e.v.n, .string e.v.s, .slice e.a e.m e.c]
abbrev E6.agg (e : E6) : Value := .agg #[.int .i64 e.k, .int .i64 e.n, .int .i64 e.v.k, .int .i64 e.v.n, .string e.v.s, .slice e.a e.m e.c]
theorem e6len (e : E6) : e.cells.length = 6 := rfl

/-- is its depth so much at most -/
def withinB : Nat → E6 → Bool
  | 0, _ => false
  | d + 1, e => e.of.all (withinB d)
/-- does something hold of all in it -/
def everyB (p : E6 → Bool) : Nat → E6 → Bool
  | 0, _ => true
  | d + 1, e => p e && e.of.all (everyB p d)
def manyZ (k : Int) : Nat := if k = 9 ∨ k = 10 then 1 else 2
/-- is it formed but for what it is of -/
def form1 (e : E6) : Bool :=
  if e.k = 0 then decide (e.m = 0) && (decide (0 ≤ e.n) && decide (e.v = v0))
  else if e.k = 1 then decide (e.m = 0) && (decide (e.n = 0) && mayV e.v)
  else if 2 ≤ e.k ∧ e.k ≤ 10 then decide (e.m = manyZ e.k) && (decide (e.n = 0) && decide (e.v = v0)) else false
def amissE (e : E6) : Int := if withinB 20 e = true then (if everyB form1 20 e = true then 0 else 1) else 2
/-- may an operator get these kinds -/
def gets3 (k a b : Int) : Bool :=
  if k = 2 ∨ k = 3 ∨ k = 4 ∨ k = 7 ∨ k = 8 ∨ k = 9 then (decide (a = 0) || decide (a = 1)) && (decide (b = 0) || decide (b = 1))
  else if k = 5 ∨ k = 6 then decide (a = b) || decide (a = 0) || decide (b = 0) else true
def nullV (a b : V3) : Bool := decide (a.k = 0) || decide (b.k = 0)
def reckV (a b : V3) (z : Int) : V3 × Int := if nullV a b = true then (v0, 0) else if z < -1099511627776 ∨ 1099511627776 < z then (v0, 20) else (numV z, 0)
def lessV (a b : V3) : Bool := if a.k = 2 then decide (a.s.data.toList < b.s.data.toList) else decide (a.n < b.n)
def noV (a b : V3) : Bool := (decide (a.k = 1) && decide (a.n = 0)) || (decide (b.k = 1) && decide (b.n = 0))
def yesV (a b : V3) : Bool := (decide (a.k = 1) && !decide (a.n = 0)) || (decide (b.k = 1) && !decide (b.n = 0))
/-- what an operator says of two values -/
def saysO (k : Int) (a b : V3) : V3 × Int :=
  if k = 2 then reckV a b (a.n + b.n) else if k = 3 then reckV a b (a.n - b.n) else if k = 4 then reckV a b (a.n * b.n)
  else if k = 5 then (if nullV a b = true then (v0, 0) else (truthV (decide (a = b)), 0))
  else if k = 6 then (if nullV a b = true then (v0, 0) else (truthV (lessV a b), 0))
  else if k = 7 then (if noV a b = true then (truthV false, 0) else if nullV a b = true then (v0, 0) else (truthV true, 0))
  else if k = 8 then (if yesV a b = true then (truthV true, 0) else if nullV a b = true then (v0, 0) else (truthV false, 0))
  else if k = 9 then (if a.k = 0 then (v0, 0) else (truthV (decide (a.n = 0)), 0))
  else (truthV (decide (a.k = 0)), 0)
/-- the first error -/
def err1 {α : Type} : List (α × Int) → Int
  | [] => 0
  | x :: r => if x.2 = 0 then err1 r else x.2
def at2 {α : Type} (z : α) (l : List (α × Int)) (j : Nat) : α := (l.getD j (z, 0)).1
def kindN : Nat → List Int → E6 → Int × Int
  | 0, _, _ => (0, 0)
  | d + 1, ks, e =>
    if e.k = 0 then (ks.getD e.n.toNat 0, 0) else if e.k = 1 then (e.v.k, 0)
    else if err1 (e.of.map (kindN d ks)) = 0 then (if gets3 e.k (at2 0 (e.of.map (kindN d ks)) 0) (at2 0 (e.of.map (kindN d ks)) 1) = true then (1, 0) else (0, 6))
    else (0, err1 (e.of.map (kindN d ks)))
def saysN : Nat → List V3 → E6 → V3 × Int
  | 0, _, _ => (v0, 0)
  | d + 1, row, e =>
    if e.k = 0 then (if e.n < row.length then (row.getD e.n.toNat v0, 0) else (v0, 4)) else if e.k = 1 then (e.v, 0)
    else if err1 (e.of.map (saysN d row)) = 0 then (if gets3 e.k (at2 v0 (e.of.map (saysN d row)) 0).k (at2 v0 (e.of.map (saysN d row)) 1).k = true then saysO e.k (at2 v0 (e.of.map (saysN d row)) 0) (at2 v0 (e.of.map (saysN d row)) 1) else (v0, 6))
    else (v0, err1 (e.of.map (saysN d row)))
def colOk (n : Nat) (e : E6) : Bool := !decide (e.k = 0) || decide (e.n < n)
def typeE (e : E6) (ks : List Int) : Int × Int := if amissE e = 0 then (if everyB (colOk ks.length) 20 e = true then kindN 20 ks e else (0, 4)) else (0, amissE e)
def evalE (e : E6) (row : List V3) : V3 × Int := if amissE e = 0 then saysN 20 row e else (v0, amissE e)
def holdsE (r : V3 × Int) : Bool × Int := if r.2 = 0 then (if r.1.k = 2 then (false, 6) else (!decide (r.1.n = 0), 0)) else (false, r.2)
def shownC (c : C4) : Int := if c.k = 0 ∨ c.k = 1 then c.t else if c.k = 2 ∨ c.k = 3 then 1 else if c.k = 4 then 2 else 0
def rightE12 (r : Int × Int) : Int := if r.2 = 0 then (if r.1 = 2 then 6 else 0) else r.2
def fit1 (v : V3) (k : Int) : Bool := mayV v && (decide (v.k = 0) || decide (v.k = k))
def fitsB (row : List V3) (ks : List Int) : Bool := decide (row.length = ks.length) && (List.range row.length).all fun i => fit1 (row.getD i v0) (ks.getD i 0)

theorem reck_may {a b : V3} {z : Int} : mayV (reckV a b z).1 = true := by
  rw [reckV]
  split
  · exact may_v0
  · split
    · exact may_v0
    · exact may_numV (by omega) (by omega)
theorem reck_ok {a b : V3} {z : Int} : ((reckV a b z).2 = 0 ∧ ((reckV a b z).1 = v0 ∨ (reckV a b z).1.k = 1)) ∨ (reckV a b z).2 = 20 ∧ (reckV a b z).1 = v0 := by
  rw [reckV]
  split
  · exact .inl ⟨rfl, .inl rfl⟩
  · split
    · exact .inr ⟨rfl, rfl⟩
    · exact .inl ⟨rfl, .inr rfl⟩
theorem says_ok (k : Int) (a b : V3) : mayV (saysO k a b).1 = true ∧ (((saysO k a b).2 = 0 ∧ ((saysO k a b).1 = v0 ∨ (saysO k a b).1.k = 1)) ∨ (saysO k a b).2 = 20 ∧ (saysO k a b).1 = v0) := by
  rw [saysO]
  repeat' split
  all_goals first
    | exact ⟨reck_may, reck_ok⟩
    | exact ⟨may_v0, .inl ⟨rfl, .inl rfl⟩⟩
    | exact ⟨may_truth _, .inl ⟨rfl, .inr rfl⟩⟩

theorem err1_zero {α : Type} {l : List (α × Int)} : err1 l = 0 ↔ ∀ x ∈ l, x.2 = 0 := by
  induction l with
  | nil => simp [err1]
  | cons x r ih =>
    rw [err1]
    split
    · rename_i h; rw [ih]; simp [h]
    · rename_i h; simp [h]
theorem err1_at {α : Type} {l : List (α × Int)} {k : Nat} {x : α × Int} (hx : l[k]? = some x) (ha : ∀ j y, j < k → l[j]? = some y → y.2 = 0) (hn : x.2 ≠ 0) : err1 l = x.2 := by
  induction l generalizing k with
  | nil => simp at hx
  | cons y r ih =>
    rw [err1]
    match k with
    | 0 => simp only [List.getElem?_cons_zero, Option.some.injEq] at hx; subst hx; rw [if_neg hn]
    | k + 1 =>
      rw [if_pos (ha 0 y (by omega) rfl)]
      exact ih (by simpa using hx) fun j z hj hz => ha (j + 1) z (by omega) (by simpa using hz)
theorem err1_mem {α : Type} {l : List (α × Int)} (h : err1 l ≠ 0) : ∃ x ∈ l, x.2 = err1 l ∧ x.2 ≠ 0 := by
  induction l with
  | nil => simp [err1] at h
  | cons y r ih =>
    rw [err1] at h ⊢
    split
    · rename_i h0
      rw [if_pos h0] at h
      obtain ⟨x, hx, h1⟩ := ih h
      exact ⟨x, .tail _ hx, h1⟩
    · rename_i h0; exact ⟨y, .head _, rfl, h0⟩

theorem within_of {d : Nat} {e : E6} (h : withinB d e = true) : ∃ d', d = d' + 1 ∧ ∀ x ∈ e.of, withinB d' x = true := by
  match d with
  | 0 => cases h
  | d + 1 => exact ⟨d, rfl, fun x hx => (List.all_eq_true.1 h) x hx⟩
theorem every_of {p : E6 → Bool} {d : Nat} {e : E6} (h : everyB p (d + 1) e = true) : p e = true ∧ ∀ x ∈ e.of, everyB p d x = true := by
  rw [everyB, Bool.and_eq_true, List.all_eq_true] at h
  exact h

/-- what an expression says may be -/
theorem says_may : ∀ (d : Nat) (row : List V3) (e : E6), (∀ v ∈ row, mayV v = true) → everyB form1 d e = true → mayV (saysN d row e).1 = true
  | 0, _, _, _, _ => may_v0
  | d + 1, row, e, hr, hf => by
    obtain ⟨h1, _⟩ := every_of hf
    rw [saysN]
    split
    · split
      · rename_i hk hn
        rw [List.getD_eq_getElem?_getD]
        cases hq : row[e.n.toNat]? with
        | none => exact may_v0
        | some x => exact hr x (List.mem_of_getElem? hq)
      · exact may_v0
    · split
      · rename_i h0 hk
        rw [form1, if_neg h0, if_pos hk] at h1
        simp only [Bool.and_eq_true] at h1
        exact h1.2.2
      · split
        · split
          · exact (says_ok _ _ _).1
          · exact may_v0
        · exact may_v0

theorem gets_mono {k a b x y : Int} (h : gets3 k a b = true) (hx : x = 0 ∨ x = a) (hy : y = 0 ∨ y = b) : gets3 k x y = true := by
  rw [gets3] at h ⊢
  split
  · rename_i hk
    rw [if_pos hk] at h
    simp only [Bool.and_eq_true, Bool.or_eq_true, decide_eq_true_eq] at h ⊢
    omega
  · rename_i hk
    rw [if_neg hk] at h
    split
    · rename_i hk2
      rw [if_pos hk2] at h
      simp only [Bool.or_eq_true, decide_eq_true_eq] at h ⊢
      omega
    · rfl

/-- P12.6 -/
theorem sound_of : ∀ (d : Nat) (ks : List Int) (row : List V3) (e : E6) (t : Int), fitsB row ks = true → withinB d e = true → everyB form1 d e = true → everyB (colOk ks.length) d e = true → kindN d ks e = (t, 0) →
    mayV (saysN d row e).1 = true ∧ (((saysN d row e).2 = 0 ∧ ((saysN d row e).1.k = 0 ∨ (saysN d row e).1.k = t)) ∨ (saysN d row e).2 = 20 ∧ (saysN d row e).1 = v0)
  | 0, _, _, _, _, _, hw, _, _, _ => by cases hw
  | d + 1, ks, row, e, t, hfit, hw, hf, hc, hk => by
    obtain ⟨h1, hf2⟩ := every_of hf
    obtain ⟨c1, hc2⟩ := every_of hc
    obtain ⟨d', hd', hw2⟩ := within_of hw
    obtain rfl : d = d' := by omega
    rw [fitsB, Bool.and_eq_true, decide_eq_true_eq, List.all_eq_true] at hfit
    rw [kindN] at hk
    rw [saysN]
    split
    · rename_i h0
      rw [if_pos h0] at hk
      rw [form1, if_pos h0] at h1
      simp only [Bool.and_eq_true, decide_eq_true_eq] at h1
      simp only [colOk, h0, decide_true, Bool.not_true, Bool.false_or, decide_eq_true_eq] at c1
      rw [if_pos (by omega)]
      have hi := hfit.2 e.n.toNat (List.mem_range.2 (by omega))
      simp only [fit1, Bool.and_eq_true, Bool.or_eq_true, decide_eq_true_eq] at hi
      injection hk with hk _
      exact ⟨hi.1, .inl ⟨rfl, by rw [← hk]; exact hi.2⟩⟩
    · rename_i h0
      rw [if_neg h0] at hk
      split
      · rename_i hk1
        rw [if_pos hk1] at hk
        rw [form1, if_neg h0, if_pos hk1] at h1
        simp only [Bool.and_eq_true] at h1
        injection hk with hk _
        exact ⟨h1.2.2, .inl ⟨rfl, .inr hk⟩⟩
      · rename_i hk1
        rw [if_neg hk1] at hk
        split at hk
        · rename_i he
          split at hk
          · rename_i hg
            injection hk with ht _
            have hkids : ∀ x ∈ e.of, ∃ tx, kindN d ks x = (tx, 0) ∧ mayV (saysN d row x).1 = true ∧ (((saysN d row x).2 = 0 ∧ ((saysN d row x).1.k = 0 ∨ (saysN d row x).1.k = tx)) ∨ (saysN d row x).2 = 20 ∧ (saysN d row x).1 = v0) := fun x hx => by
              have h2 := err1_zero.1 he (kindN d ks x) (List.mem_map.2 ⟨x, hx, rfl⟩)
              refine ⟨(kindN d ks x).1, Prod.ext rfl h2, ?_⟩
              exact sound_of d ks row x _ (by rw [fitsB, Bool.and_eq_true, decide_eq_true_eq, List.all_eq_true]; exact hfit) (hw2 x hx) (hf2 x hx) (hc2 x hx) (Prod.ext rfl h2)
            split
            · rename_i he2
              have hat : ∀ j, (at2 v0 (e.of.map (saysN d row)) j).k = 0 ∨ (at2 v0 (e.of.map (saysN d row)) j).k = at2 0 (e.of.map (kindN d ks)) j := fun j => by
                simp only [at2, List.getD_eq_getElem?_getD, List.getElem?_map]
                cases hj : e.of[j]? with
                | none => exact .inl rfl
                | some x =>
                  obtain ⟨tx, hx1, _, hx2⟩ := hkids x (List.mem_of_getElem? hj)
                  have hz := err1_zero.1 he2 (saysN d row x) (List.mem_map.2 ⟨x, List.mem_of_getElem? hj, rfl⟩)
                  simp only [Option.map_some, Option.getD_some]
                  rw [hx1]
                  rcases hx2 with h | h
                  · exact h.2
                  · omega
              rw [if_pos (gets_mono hg (hat 0) (hat 1))]
              obtain ⟨m1, m2⟩ := says_ok e.k (at2 v0 (e.of.map (saysN d row)) 0) (at2 v0 (e.of.map (saysN d row)) 1)
              refine ⟨m1, m2.imp (fun h => ⟨h.1, h.2.imp (fun h => by rw [h]) (fun h => by rw [h]; exact ht)⟩) id⟩
            · rename_i he2
              obtain ⟨x, hx, h3, h4⟩ := err1_mem he2
              obtain ⟨y, hy, rfl⟩ := List.mem_map.1 hx
              obtain ⟨_, _, _, h5⟩ := hkids y hy
              refine ⟨may_v0, .inr ⟨?_, rfl⟩⟩
              show err1 _ = 20
              rw [← h3]
              rcases h5 with h | h
              · exact absurd h.1 h4
              · exact h.1
          · cases hk
        · rename_i he
          injection hk with _ hk
          exact absurd hk he
end Go.Proofs.Ytkpkkkmokgmhfaa
