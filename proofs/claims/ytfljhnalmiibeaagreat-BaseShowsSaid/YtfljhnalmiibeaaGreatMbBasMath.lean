/- Several texts laid together: BasMath, Cell, CntRight, CntCell, CntMake, MulEq. -/
import Derived.Test.YtfljhnalmiibeaaGreatMbValMath
import Derived.Test.YtfljhnalmiibeaaGreatMbStruct
import Derived.Deep.QuietTactic
import Derived.Deep.RegionHeld3
import Derived.Laws.NewBlocks
namespace Go.Proofs.YtfljhnalmiibeaaGreat
set_option maxRecDepth 100000
/-- a cell: its kind, its value, its parts -/
structure CQ where
  k : Int
  v : V3
  l : List P11
/-- a line: its key, its cells, the dots that wrote it -/
structure LQ where
  key : Int
  cs : List CQ
  by_ : List D2
instance decCQ : DecidableEq CQ := fun a b =>
  if h : a.k = b.k ∧ a.v = b.v ∧ a.l = b.l then isTrue (by cases a; cases b; obtain ⟨h1, h2, h3⟩ := h; simp only at h1 h2 h3; subst h1 h2 h3; rfl)
  else isFalse (fun e => h (by subst e; exact ⟨rfl, rfl, rfl⟩))
instance decLQ : DecidableEq LQ := fun a b =>
  if h : a.key = b.key ∧ a.cs = b.cs ∧ a.by_ = b.by_ then isTrue (by cases a; cases b; obtain ⟨h1, h2, h3⟩ := h; simp only at h1 h2 h3; subst h1 h2 h3; rfl)
  else isFalse (fun e => h (by subst e; exact ⟨rfl, rfl, rfl⟩))
instance inhCQ : Inhabited CQ := ⟨⟨0, default, []⟩⟩
instance inhLQ : Inhabited LQ := ⟨⟨0, [], []⟩⟩
def noLine : LQ := ⟨0, [], []⟩
/-- the place of the first one of which it is so, or the one behind all -/
def placeF {α : Type} (p : α → Bool) (l : List α) : Nat := l.findIdx p
theorem placeF_le {α : Type} (p : α → Bool) (l : List α) : placeF p l ≤ l.length := List.findIdx_le_length
abbrev keyIs (k : Int) : LQ → Bool := fun x => decide (x.key = k)
abbrev keyOver (k : Int) : LQ → Bool := fun x => decide (k < x.key)
def placeK (l : List LQ) (k : Int) : Nat := placeF (keyIs k) l
/-- lines, and one more, or in the place of the first one of its key -/
def putL (l : List LQ) (x : LQ) : List LQ :=
  if placeK l x.key = l.length then l.take (placeF (keyOver x.key) l) ++ x :: l.drop (placeF (keyOver x.key) l)
  else l.take (placeK l x.key) ++ x :: l.drop (placeK l x.key + 1)
def dropL (l : List LQ) (k : Int) : List LQ := if placeK l k = l.length then l else l.take (placeK l k) ++ l.drop (placeK l k + 1)
def getL (l : List LQ) (k : Int) : Option LQ := l[placeK l k]?
/-- is a above b -/
def overD (b a : D2) : Bool := decide (b.d < a.d) || (decide (a.d = b.d) && decide (b.s < a.s))
def wroteD (l : List D2) (d : D2) : List D2 := if d ∈ l then l else l.take (placeF (overD d) l) ++ d :: l.drop (placeF (overD d) l)
def wroteL (x : LQ) (d : D2) : LQ := ⟨x.key, x.cs, wroteD x.by_ d⟩
/-- a base's tables -/
def linesB (b : List (List LQ)) (t : Int) : List LQ := if 0 ≤ t then b.getD t.toNat [] else []
def setB (b : List (List LQ)) (t : Int) (l : List LQ) : List (List LQ) := if 0 ≤ t then b.set t.toNat l else b
def putB13 (b : List (List LQ)) (t : Int) (x : LQ) : List (List LQ) := setB b t (putL (linesB b t) x)
def dropB13 (b : List (List LQ)) (t k : Int) : List (List LQ) := setB b t (dropL (linesB b t) k)
def getB13 (b : List (List LQ)) (t k : Int) : Option LQ := getL (linesB b t) k
section
variable {l : List LQ} {k j : Int} {x : LQ}
/-- keys rise -/
def Asc (l : List LQ) : Prop := l.Pairwise fun a b => a.key < b.key
theorem place_no (h : ∀ y ∈ l, y.key ≠ k) : placeK l k = l.length := by
  unfold placeK placeF
  rw [List.findIdx_eq_length]
  intro y hy
  exact decide_eq_false (h y hy)
theorem placeK_hit (h : placeK l k < l.length) : (l[placeK l k]'h).key = k := by
  have := List.findIdx_getElem (p := keyIs k) (xs := l) (w := h)
  exact of_decide_eq_true this
theorem place_before {i : Nat} (h : i < placeK l k) (hi : i < l.length) : l[i].key ≠ k := by
  intro e
  have := List.not_of_lt_findIdx (p := keyIs k) (xs := l) h
  rw [show keyIs k l[i] = true from decide_eq_true e] at this
  exact absurd this (by simp)
theorem over_before {i : Nat} (h : i < placeF (keyOver k) l) (hi : i < l.length) : l[i].key ≤ k := by
  have := List.not_of_lt_findIdx (p := keyOver k) (xs := l) h
  have := of_decide_eq_false (by simpa using this : decide (k < l[i].key) = false)
  omega
theorem over_at (h : placeF (keyOver k) l < l.length) : k < (l[placeF (keyOver k) l]'h).key := by
  have := List.findIdx_getElem (p := keyOver k) (xs := l) (w := h)
  exact of_decide_eq_true this
theorem getL_nil : getL [] k = none := rfl
theorem getL_cons (y : LQ) (r : List LQ) : getL (y :: r) k = if y.key = k then some y else getL r k := by
  unfold getL placeK placeF
  rw [List.findIdx_cons]
  by_cases h : y.key = k
  · simp [keyIs, h]
  · simp [keyIs, h]
theorem getL_some : getL l k = some x → x ∈ l ∧ x.key = k := by
  induction l with
  | nil => intro h; cases h
  | cons y r ih =>
    rw [getL_cons]
    split
    · intro h; injection h with h; subst h; exact ⟨List.mem_cons_self, ‹_›⟩
    · intro h; obtain ⟨h1, h2⟩ := ih h; exact ⟨List.mem_cons_of_mem _ h1, h2⟩
theorem getL_none : getL l k = none ↔ ∀ y ∈ l, y.key ≠ k := by
  induction l with
  | nil => simp [getL_nil]
  | cons y r ih =>
    rw [getL_cons]
    by_cases h : y.key = k
    · rw [if_pos h]
      exact ⟨fun e => (by cases e), fun e => absurd h (e y List.mem_cons_self)⟩
    · rw [if_neg h, ih]
      constructor
      · intro e z hz
        rcases List.mem_cons.1 hz with rfl | hz
        · exact h
        · exact e z hz
      · exact fun e z hz => e z (List.mem_cons_of_mem _ hz)
theorem getL_place : getL l k = none ↔ placeK l k = l.length := by
  unfold getL
  rw [List.getElem?_eq_none_iff]
  have : placeK l k ≤ l.length := placeF_le _ _
  omega
theorem getL_append (a b : List LQ) : getL (a ++ b) k = (getL a k).or (getL b k) := by
  induction a with
  | nil => simp [getL_nil]
  | cons y r ih => rw [List.cons_append, getL_cons, getL_cons, ih]; split <;> simp
/-- two rows of rising keys that have the same of each key are one -/
theorem asc_ext : ∀ {l m : List LQ}, Asc l → Asc m → (∀ k, getL l k = getL m k) → l = m
  | [], [], _, _, _ => rfl
  | [], y :: m, _, _, h => by have := h y.key; rw [getL_nil, getL_cons, if_pos rfl] at this; cases this
  | x :: l, [], _, _, h => by have := h x.key; rw [getL_nil, getL_cons, if_pos rfl] at this; cases this
  | x :: l, y :: m, hl, hm, h => by
    have hl' := List.pairwise_cons.1 hl
    have hm' := List.pairwise_cons.1 hm
    have hk : x.key = y.key := by
      rcases Int.lt_trichotomy x.key y.key with e | e | e
      · have := h x.key
        rw [getL_cons, if_pos rfl, getL_cons, if_neg (by omega)] at this
        obtain ⟨h1, h2⟩ := getL_some this.symm
        have := hm'.1 x h1
        omega
      · exact e
      · have := h y.key
        rw [getL_cons, getL_cons, if_pos rfl, if_neg (by omega)] at this
        obtain ⟨h1, h2⟩ := getL_some this
        have := hl'.1 y h1
        omega
    have hx : x = y := by
      have := h x.key
      rw [getL_cons, if_pos rfl, getL_cons, if_pos hk.symm] at this
      injection this
    subst hx
    rw [asc_ext hl'.2 hm'.2 fun k => ?_]
    have := h k
    rw [getL_cons, getL_cons] at this
    by_cases hxk : x.key = k
    · have h1 : getL l k = none := getL_none.2 fun y hy e => by have := hl'.1 y hy; omega
      have h2 : getL m k = none := getL_none.2 fun y hy e => by have := hm'.1 y hy; omega
      rw [h1, h2]
    · rwa [if_neg hxk, if_neg hxk] at this
theorem Asc.sub {l m : List LQ} (h : Asc m) (hs : l.Sublist m) : Asc l := List.Pairwise.sublist hs h
theorem drop_sub (l : List LQ) (k : Int) : (dropL l k).Sublist l := by
  unfold dropL
  split
  · exact List.Sublist.refl _
  · conv => rhs; rw [← List.take_append_drop (placeK l k) l]
    refine List.Sublist.append (List.Sublist.refl _) ?_
    rw [List.drop_add_one_eq_tail_drop]
    exact List.tail_sublist _
theorem Asc.dropL (h : Asc l) (k : Int) : Asc (dropL l k) := h.sub (drop_sub l k)
theorem asc_split {a b : List LQ} (h : Asc (a ++ b)) : Asc a ∧ Asc b ∧ ∀ x ∈ a, ∀ y ∈ b, x.key < y.key := List.pairwise_append.1 h
theorem take_at_drop (l : List LQ) (n : Nat) (h : n < l.length) : l = l.take n ++ l[n] :: l.drop (n + 1) := by
  rw [← List.drop_eq_getElem_cons h, List.take_append_drop]
/-- of rising keys: what is there, dropped -/
theorem getL_drop (h : Asc l) : getL (dropL l k) j = if j = k then none else getL l j := by
  unfold dropL
  by_cases h0 : placeK l k = l.length
  · rw [if_pos h0]
    by_cases hj : j = k
    · subst hj; rw [if_pos rfl, getL_place]; exact h0
    · rw [if_neg hj]
  · have hlt : placeK l k < l.length := by have := placeF_le (keyIs k) l; unfold placeK at h0 ⊢; omega
    rw [if_neg h0]
    have hs := take_at_drop l _ hlt
    have hk := placeK_hit hlt
    have ha : Asc (l.take (placeK l k) ++ l[placeK l k] :: l.drop (placeK l k + 1)) := by rw [← hs]; exact h
    obtain ⟨h1, h2, h3⟩ := asc_split ha
    have h4 := List.pairwise_cons.1 h2
    conv => rhs; rw [hs]
    rw [getL_append, getL_append, getL_cons, hk]
    by_cases hj : j = k
    · subst hj
      rw [if_pos rfl]
      have e1 : getL (l.take (placeK l j)) j = none := getL_none.2 fun y hy e => by have := h3 y hy _ List.mem_cons_self; omega
      have e2 : getL (l.drop (placeK l j + 1)) j = none := getL_none.2 fun y hy e => by have := h4.1 y hy; omega
      rw [e1, e2]; rfl
    · rw [if_neg hj, if_neg (fun e => hj e.symm)]
theorem put_gone (h : placeK l x.key = l.length) (ha : Asc l) : Asc (putL l x) ∧ ∀ j, getL (putL l x) j = if j = x.key then some x else getL l j := by
  unfold putL
  rw [if_pos h]
  have hno := getL_none.1 (getL_place.2 h)
  generalize hg : placeF (keyOver x.key) l = g
  have hgl : g ≤ l.length := by rw [← hg]; exact placeF_le _ _
  have hb : ∀ y ∈ l.take g, y.key < x.key := by
    intro y hy
    obtain ⟨i, hi, rfl⟩ := List.getElem_of_mem hy
    rw [List.length_take] at hi
    rw [List.getElem_take]
    have h1 := over_before (l := l) (k := x.key) (i := i) (by rw [hg]; omega) (by omega)
    have h2 := hno l[i] (List.getElem_mem _)
    omega
  have hs := asc_split (by rw [List.take_append_drop]; exact ha : Asc (l.take g ++ l.drop g))
  have hafter : ∀ y ∈ l.drop g, x.key < y.key := by
    intro y hy
    by_cases hlt : g < l.length
    · have h1 : x.key < (l[g]'hlt).key := by subst hg; exact over_at hlt
      rw [List.drop_eq_getElem_cons hlt] at hy hs
      rcases List.mem_cons.1 hy with rfl | hy
      · exact h1
      · have := (List.pairwise_cons.1 hs.2.1).1 y hy; omega
    · rw [List.drop_of_length_le (by omega)] at hy; cases hy
  refine ⟨List.pairwise_append.2 ⟨hs.1, List.pairwise_cons.2 ⟨hafter, hs.2.1⟩, ?_⟩, fun j => ?_⟩
  · intro a ha' b hb'
    rcases List.mem_cons.1 hb' with rfl | hb'
    · exact hb a ha'
    · exact hs.2.2 a ha' b hb'
  · conv => rhs; rw [← List.take_append_drop g l]
    rw [getL_append, getL_append, getL_cons]
    by_cases hj : j = x.key
    · subst hj
      have e1 : getL (l.take g) x.key = none := getL_none.2 fun y hy e => by have := hb y hy; omega
      simp [e1]
    · rw [if_neg hj, if_neg (fun e => hj e.symm)]
theorem put_there (h : placeK l x.key < l.length) (ha : Asc l) : Asc (putL l x) ∧ ∀ j, getL (putL l x) j = if j = x.key then some x else getL l j := by
  unfold putL
  rw [if_neg (by omega)]
  have hs := take_at_drop l _ h
  have hk := placeK_hit h
  have ha2 : Asc (l.take (placeK l x.key) ++ l[placeK l x.key] :: l.drop (placeK l x.key + 1)) := by rw [← hs]; exact ha
  obtain ⟨h1, h2, h3⟩ := asc_split ha2
  have h4 := List.pairwise_cons.1 h2
  refine ⟨List.pairwise_append.2 ⟨h1, List.pairwise_cons.2 ⟨fun y hy => by have := h4.1 y hy; omega, h4.2⟩, ?_⟩, fun j => ?_⟩
  · intro a ha' b hb'
    rcases List.mem_cons.1 hb' with rfl | hb'
    · have := h3 a ha' _ List.mem_cons_self; omega
    · exact h3 a ha' b (List.mem_cons_of_mem _ hb')
  · conv => rhs; rw [hs]
    rw [getL_append, getL_append, getL_cons, getL_cons, hk]
    by_cases hj : j = x.key
    · subst hj
      have e1 : getL (l.take (placeK l x.key)) x.key = none := getL_none.2 fun y hy e => by have := h3 y hy _ List.mem_cons_self; omega
      simp [e1]
    · rw [if_neg hj, if_neg (fun e => hj e.symm), if_neg (fun e => hj e.symm)]
theorem place_two (l : List LQ) (k : Int) : placeK l k = l.length ∨ placeK l k < l.length := by have := placeF_le (keyIs k) l; unfold placeK; omega
theorem Asc.putL (h : Asc l) (x : LQ) : Asc (putL l x) := by
  rcases place_two l x.key with e | e
  · exact (put_gone e h).1
  · exact (put_there e h).1
theorem getL_put (h : Asc l) (x : LQ) (j : Int) : getL (putL l x) j = if j = x.key then some x else getL l j := by
  rcases place_two l x.key with e | e
  · exact (put_gone e h).2 j
  · exact (put_there e h).2 j
theorem putL_putL (h : Asc l) {x y : LQ} (hn : x.key ≠ y.key) : putL (putL l x) y = putL (putL l y) x := by
  refine asc_ext ((h.putL x).putL y) ((h.putL y).putL x) fun j => ?_
  rw [getL_put (h.putL x), getL_put h, getL_put (h.putL y), getL_put h]
  by_cases h1 : j = x.key <;> by_cases h2 : j = y.key <;> simp [h1, h2]
  · omega
  · intro e; exact absurd e (by omega)
  · intro e; exact absurd e.symm hn
theorem putL_dropL (h : Asc l) {x : LQ} (hn : x.key ≠ k) : dropL (putL l x) k = putL (dropL l k) x := by
  refine asc_ext ((h.putL x).dropL k) ((h.dropL k).putL x) fun j => ?_
  rw [getL_drop (h.putL x), getL_put h, getL_put (h.dropL k), getL_drop h]
  by_cases h1 : j = x.key <;> by_cases h2 : j = k <;> simp [h1, h2]
  · omega
  · intro e; exact absurd e (by omega)
  · intro e; exact absurd e.symm hn
theorem putL_twice (h : Asc l) (x : LQ) : putL (putL l x) x = putL l x := by
  refine asc_ext ((h.putL x).putL x) (h.putL x) fun j => ?_
  rw [getL_put (h.putL x), getL_put h]
  split <;> rfl
theorem dropL_twice (h : Asc l) (k : Int) : dropL (dropL l k) k = dropL l k := by
  refine asc_ext ((h.dropL k).dropL k) (h.dropL k) fun j => ?_
  rw [getL_drop (h.dropL k), getL_drop h]
  split <;> rfl
theorem dropL_none (h : getL l k = none) : dropL l k = l := by
  unfold Go.Proofs.YtfljhnalmiibeaaGreat.dropL
  rw [if_pos (getL_place.1 h)]
theorem putL_back (h : Asc l) (hx : getL l k = some x) : putL (dropL l k) x = l := by
  obtain ⟨_, rfl⟩ := getL_some hx
  refine asc_ext ((h.dropL _).putL x) h fun j => ?_
  rw [getL_put (h.dropL _), getL_drop h]
  by_cases hj : j = x.key
  · subst hj; rw [if_pos rfl, hx]
  · rw [if_neg hj, if_neg hj]
theorem mem_putL {y : LQ} (h : y ∈ putL l x) : y = x ∨ y ∈ l := by
  unfold putL at h
  split at h
  · rcases List.mem_append.1 h with h | h
    · exact .inr (List.mem_of_mem_take h)
    · rcases List.mem_cons.1 h with h | h
      · exact .inl h
      · exact .inr (List.mem_of_mem_drop h)
  · rcases List.mem_append.1 h with h | h
    · exact .inr (List.mem_of_mem_take h)
    · rcases List.mem_cons.1 h with h | h
      · exact .inl h
      · exact .inr (List.mem_of_mem_drop h)
theorem in_putL (h : Asc l) (x : LQ) : x ∈ putL l x := by
  have := getL_put h x x.key
  rw [if_pos rfl] at this
  exact (getL_some this).1
theorem putL_len : (putL l x).length ≤ l.length + 1 ∧ l.length ≤ (putL l x).length := by
  unfold putL
  have h1 := placeF_le (keyOver x.key) l
  have h2 : placeK l x.key ≤ l.length := placeF_le _ _
  split <;> simp only [List.length_append, List.length_take, List.length_cons, List.length_drop] <;> omega
theorem dropL_len : (dropL l k).length ≤ l.length := (drop_sub l k).length_le
end
/-- the dots of a line -/
def AscD (l : List D2) : Prop := l.Pairwise fun a b => overD a b = true
theorem overD_iff (b a : D2) : overD b a = true ↔ b.d < a.d ∨ (a.d = b.d ∧ b.s < a.s) := by simp [overD]
theorem overD_irr (a : D2) : overD a a = false := by
  rcases h : overD a a with _ | _
  · rfl
  · rw [overD_iff] at h; omega
theorem d2_ext {a b : D2} (h1 : a.d = b.d) (h2 : a.s = b.s) : a = b := by cases a; cases b; simp only at h1 h2; subst h1 h2; rfl
theorem wrote_mem {l : List D2} {d x : D2} : x ∈ wroteD l d ↔ x = d ∨ x ∈ l := by
  unfold wroteD
  split
  · exact ⟨.inr, fun h => h.elim (fun e => by subst e; assumption) id⟩
  · conv => rhs; rhs; rw [← List.take_append_drop (placeF (overD d) l) l]
    simp only [List.mem_append, List.mem_cons]
    constructor
    · rintro (h | h | h)
      · exact .inr (.inl h)
      · exact .inl h
      · exact .inr (.inr h)
    · rintro (h | h | h)
      · exact .inr (.inl h)
      · exact .inl h
      · exact .inr (.inr h)
theorem wrote_asc {l : List D2} (h : AscD l) (d : D2) : AscD (wroteD l d) := by
  unfold wroteD
  split
  · exact h
  · rename_i hno
    generalize hg : placeF (overD d) l = g
    have hgl : g ≤ l.length := by rw [← hg]; exact placeF_le _ _
    have hs := List.pairwise_append.1 (by rw [List.take_append_drop]; exact h : (l.take g ++ l.drop g).Pairwise fun a b => overD a b = true)
    have hb : ∀ y ∈ l.take g, overD y d = true := by
      intro y hy
      obtain ⟨i, hi, rfl⟩ := List.getElem_of_mem hy
      rw [List.length_take] at hi
      rw [List.getElem_take]
      have h1 := List.not_of_lt_findIdx (p := overD d) (xs := l) (i := i) (by unfold placeF at hg; omega)
      have h2 : l[i]'(by omega) ≠ d := fun e => hno (e ▸ List.getElem_mem _)
      have h3 : ¬ (l[i]'(by omega)).d = d.d ∨ ¬ (l[i]'(by omega)).s = d.s := by
        by_cases h4 : (l[i]'(by omega)).d = d.d
        · by_cases h5 : (l[i]'(by omega)).s = d.s
          · exact absurd (d2_ext h4 h5) h2
          · exact .inr h5
        · exact .inl h4
      have h6 : ¬ (overD d (l[i]'(by omega)) = true) := by simpa using h1
      rw [overD_iff] at h6 ⊢
      omega
    have ha : ∀ y ∈ l.drop g, overD d y = true := by
      intro y hy
      by_cases hlt : g < l.length
      · have h1 : overD d (l[g]'hlt) = true := by
          have := List.findIdx_getElem (p := overD d) (xs := l) (w := by unfold placeF at hg; omega)
          unfold placeF at hg
          subst hg
          exact this
        rw [List.drop_eq_getElem_cons hlt] at hy hs
        rcases List.mem_cons.1 hy with rfl | hy
        · exact h1
        · have := (List.pairwise_cons.1 hs.2.1).1 y hy
          rw [overD_iff] at this h1 ⊢; omega
      · rw [List.drop_of_length_le (by omega)] at hy; cases hy
    refine List.pairwise_append.2 ⟨hs.1, List.pairwise_cons.2 ⟨ha, hs.2.1⟩, ?_⟩
    intro a ha' b hb'
    rcases List.mem_cons.1 hb' with rfl | hb'
    · exact hb a ha'
    · exact hs.2.2 a ha' b hb'
theorem ascD_ext : ∀ {l m : List D2}, AscD l → AscD m → (∀ x, x ∈ l ↔ x ∈ m) → l = m
  | [], [], _, _, _ => rfl
  | [], y :: m, _, _, h => by have := (h y).2 List.mem_cons_self; cases this
  | x :: l, [], _, _, h => by have := (h x).1 List.mem_cons_self; cases this
  | x :: l, y :: m, hl, hm, h => by
    have hl' := List.pairwise_cons.1 hl
    have hm' := List.pairwise_cons.1 hm
    have hx : x = y := by
      rcases List.mem_cons.1 ((h x).1 List.mem_cons_self) with e | e
      · exact e
      · rcases List.mem_cons.1 ((h y).2 List.mem_cons_self) with e2 | e2
        · exact e2.symm
        · have h1 := hm'.1 x e
          have h2 := hl'.1 y e2
          rw [overD_iff] at h1 h2; omega
    subst hx
    rw [ascD_ext hl'.2 hm'.2 fun z => ?_]
    constructor
    · intro hz
      rcases List.mem_cons.1 ((h z).1 (List.mem_cons_of_mem _ hz)) with e | e
      · subst e; have := hl'.1 z hz; rw [overD_irr] at this; cases this
      · exact e
    · intro hz
      rcases List.mem_cons.1 ((h z).2 (List.mem_cons_of_mem _ hz)) with e | e
      · subst e; have := hm'.1 z hz; rw [overD_irr] at this; cases this
      · exact e
theorem wrote_wrote {l : List D2} (h : AscD l) (d e : D2) : wroteD (wroteD l d) e = wroteD (wroteD l e) d := by
  refine ascD_ext (wrote_asc (wrote_asc h d) e) (wrote_asc (wrote_asc h e) d) fun x => ?_
  simp only [wrote_mem]
  constructor
  · rintro (h | h | h)
    · exact .inr (.inl h)
    · exact .inl h
    · exact .inr (.inr h)
  · rintro (h | h | h)
    · exact .inr (.inl h)
    · exact .inl h
    · exact .inr (.inr h)
theorem wrote_count (l : List D2) (d : D2) : (wroteD l d).count d = max 1 (l.count d) ∧ (wroteD l d).length = l.length + (wroteD l d).count d - l.count d := by
  unfold wroteD
  split
  · rename_i h
    have := List.count_pos_iff.2 h
    omega
  · rename_i h
    have h0 : l.count d = 0 := List.count_eq_zero.2 h
    have h1 : (l.take (placeF (overD d) l)).count d + (l.drop (placeF (overD d) l)).count d = 0 := by rw [← List.count_append, List.take_append_drop, h0]
    have h2 := placeF_le (overD d) l
    rw [h0, List.count_append, List.count_cons_self]
    simp only [List.length_append, List.length_take, List.length_cons, List.length_drop]
    omega
end Go.Proofs.YtfljhnalmiibeaaGreat

namespace Go.Proofs.YtfljhnalmiibeaaGreat
set_option maxRecDepth 100000
open Go.RowKit
abbrev cellRow (k : Int) (v : V3) (s : Value) : Obj := .cells #[.int .i64 k, .int .i64 v.k, .int .i64 v.n, .string v.s, s] 72
abbrev valRow (v : V3) : Obj := .cells #[.int .i64 v.k, .int .i64 v.n, .string v.s] 68
abbrev cellV (k : Int) (v : V3) (s : Value) : Value := .agg #[.int .i64 k, .int .i64 v.k, .int .i64 v.n, .string v.s, s]
theorem cell_row5 {w : World} {g : Nat} {k : Int} {v : V3} {s : Value} (h : w.heap[g]? = some (cellRow k v s)) : w.cell? ⟨g, 0, none⟩ = some (.int .i64 k) ∧ w.cell? ⟨g, 1, none⟩ = some (.int .i64 v.k) ∧ w.cell? ⟨g, 2, none⟩ = some (.int .i64 v.n) ∧ w.cell? ⟨g, 3, none⟩ = some (.string v.s) ∧ w.cell? ⟨g, 4, none⟩ = some s := by
  have h2 := cell_row h
  refine ⟨?_, ?_, ?_, ?_, ?_⟩ <;> (rw [h2]; rfl)
theorem val_row {w : World} {g : Nat} {v : V3} (h : w.heap[g]? = some (valRow v)) : w.cell? ⟨g, 0, none⟩ = some (.int .i64 v.k) ∧ w.cell? ⟨g, 1, none⟩ = some (.int .i64 v.n) ∧ w.cell? ⟨g, 2, none⟩ = some (.string v.s) := by
  have h2 := cell_row h
  refine ⟨?_, ?_, ?_⟩ <;> (rw [h2]; rfl)
theorem set5 {w : World} {g : Nat} {a b c d e x y z u v : Value} {t : TypeId} {fr : Nat × Nat} (h : w.heap[g]? = some (.cells #[a, b, c, d, e] t fr)) :
    (((((w.setCell ⟨g, 0, none⟩ x).setCell ⟨g, 1, none⟩ y).setCell ⟨g, 2, none⟩ z).setCell ⟨g, 3, none⟩ u).setCell ⟨g, 4, none⟩ v).heap[g]? = some (.cells #[x, y, z, u, v] t fr) := by
  rw [set_row (set_row (set_row (set_row (set_row h 0 x) 1 y) 2 z) 3 u) 4 v]
  rfl
end Go.Proofs.YtfljhnalmiibeaaGreat

namespace Go.Proofs.YtfljhnalmiibeaaGreat
set_option maxRecDepth 100000
open Go.RowKit
/-- why a counter may not be: p: how many parts it has -/
def rightN (k : Int) (v : V3) (p : Nat) : Int :=
  if k = 2 ∧ v.k = 1 then (if v.s.size = 0 ∧ p = 0 then (if -1099511627776 ≤ v.n ∧ v.n ≤ 1099511627776 then 0 else 20) else 1) else 6
theorem farther_any (b : Int) (w : World) :
    Calls Tryz.prog 110 #[.int .i64 b] w fun e w' => e = .returned (.func (.func 140) #[] #[.pointer (some ⟨w.heap.size, 0, none⟩)]) ∧ w' = w.alloc (.cells #[.int .i64 b] 3) := by
  have hmf : ∀ (fn : Fn) (first cap : Array Value) (w : World), (Instr.makeFunc fn first cap).run Tryz.prog w = .ok (.func fn first cap) w := fun _ _ _ _ => rfl
  go_enter Tryz.func110, Tryz.ntmps110
  go_wp2
  go_ret
  exact ⟨rfl, rfl⟩
theorem far1_any (n : Int) (g : Nat) (w : World) (h : w.cell? ⟨g, 0, none⟩ = some (.int .i64 1099511627776)) :
    Calls Tryz.prog 140 #[.int .i64 n, .pointer (some ⟨g, 0, none⟩)] w fun e w' => e = .returned (.bool (decide (n < -1099511627776) || decide (1099511627776 < n))) ∧ w' = w := by
  go_enter Tryz.func140, Tryz.ntmps140
  go_wp2
  all_goals go_ret
  all_goals exact ⟨ret_bool (by simp_all <;> omega), rfl⟩
theorem str_empty {s : ByteArray} (h : s.size = 0) : s = ⟨#[]⟩ := by
  apply ByteArray.ext; exact Array.eq_empty_of_size_eq_zero h
set_option maxHeartbeats 1600000 in
theorem cntRight_any (k : Int) (v : V3) (A : Option Addr) (n c : Nat) (w : World) :
    Calls Tryz.prog 79 #[cellV k v (.slice A n c)] w fun e w' => e = .returned (.int .i64 (rightN k v n)) ∧ Below w.heap.size w w' := by
  obtain ⟨w1, hw1⟩ : ∃ w1, w1 = w.alloc (cellRow k v (.slice A n c)) := ⟨_, rfl⟩
  have h4 : w1.heap[w.heap.size]? = some (cellRow k v (.slice A n c)) := by rw [hw1]; exact heap_alloc_new _ _
  have B1 : Below w.heap.size w w1 := by rw [hw1]; exact below_new (Below.refl _ _) _
  have hB2 := below_new B1 (.cells #[.int .i64 1099511627776] 3)
  have h5 : (w1.alloc (.cells #[.int .i64 1099511627776] 3)).cell? ⟨w1.heap.size, 0, none⟩ = some (.int .i64 1099511627776) := by
    rw [cell_row (heap_alloc_new _ _)]; rfl
  obtain ⟨w2, hw2⟩ : ∃ w2, w2 = w1.alloc (.cells #[.int .i64 1099511627776] 3) := ⟨_, rfl⟩
  have h6 : w2.heap[w.heap.size]? = some (cellRow k v (.slice A n c)) := by rw [hw2]; exact row_below h4 (below_new (Below.refl _ _) _)
  rw [← hw2] at hB2 h5
  obtain ⟨c0, c1, c2, c3, c4⟩ := cell_row5 h6
  have HF := Lib.hid (far1_any v.n w1.heap.size w2 h5)
  have HB := Lib.hid hB2
  have HW1 := Lib.hid hw1; have HW2 := Lib.hid hw2
  obtain ⟨F, hF⟩ : ∃ F, Hid (F = rightN k v n) := ⟨_, rfl⟩
  rw [← hF.out]
  have hz4 : v.s.toList = [] ↔ v.s.size = 0 := by
    constructor
    · intro h; have := iem v.s; rw [h] at this; simpa using this.symm
    · intro h; rw [str_empty h, Lib.toList_data]
  have HZ := Lib.hid hz4
  clear h4 B1 hB2 h5 h6 hw1 hw2 hz4
  go_enter Tryz.func79, Tryz.ntmps79
  go_wp2_with fail
  rw [← HW1.out]
  refine (farther_any _ _).mono ?_
  rintro e w3 ⟨rfl, hw3⟩
  rw [← HW2.out] at hw3
  subst hw3
  clear HW1 HW2
  go_wp2_with fail
  all_goals first
    | (refine (HF.out).mono ?_
       rintro e w4 ⟨rfl, rfl⟩
       rcases Decidable.em (v.n < -1099511627776) with hlo | hlo <;> rcases Decidable.em (1099511627776 < v.n) with hhi | hhi
       all_goals simp [hlo, hhi]
       all_goals go_wp2_with fail
       all_goals go_ret
       all_goals
         refine ⟨ret_int ?_, HB.out⟩
         rw [hF.out]
         have hz := HZ.out
         clear HB hF
         unfold rightN
         repeat' split
         all_goals first
           | rfl
           | (exfalso; omega)
           | (exfalso; simp_all; done)
           | (exfalso; simp_all; omega))
    | (go_ret
       refine ⟨ret_int ?_, HB.out⟩
       rw [hF.out]
       have hz := HZ.out
       clear HB hF
       unfold rightN
       repeat' split
       all_goals first
         | rfl
         | (exfalso; omega)
         | (exfalso; simp_all; done)
         | (exfalso; simp_all; omega))
end Go.Proofs.YtfljhnalmiibeaaGreat

namespace Go.Proofs.YtfljhnalmiibeaaGreat
set_option maxRecDepth 100000
open Go.RowKit
abbrev noS : ByteArray := ⟨#[]⟩
end Go.Proofs.YtfljhnalmiibeaaGreat

namespace Go.Proofs.YtfljhnalmiibeaaGreat
set_option maxRecDepth 100000
open Go.RowKit
/-- a cell that lies in a slice -/
structure C5 where
  k : Int
  v : V3
  A : Option Addr
  n : Nat
  c : Nat
def C5.cells (x : C5) : List Value := [.int .i64 x.k, .int .i64 x.v.k, .int .i64 x.v.n, .string x.v.s, .slice x.A x.n x.c]
abbrev C5.val (x : C5) : Value := cellV x.k x.v (.slice x.A x.n x.c)
theorem c5len (x : C5) : x.cells.length = 5 := rfl
abbrev C5.right (x : C5) : Int := rightN x.k x.v x.n
end Go.Proofs.YtfljhnalmiibeaaGreat

namespace Go.Proofs.YtfljhnalmiibeaaGreat
set_option maxRecDepth 100000
open Go.RowKit
theorem sameZ_is (a b : V3) : sameZ a.k a.n a.s b.k b.n b.s = decide (a = b) := by
  obtain ⟨k, n, s⟩ := a; obtain ⟨k', n', s'⟩ := b
  refine Bool.eq_iff_iff.2 ?_
  simp [sameZ, and_assoc]
theorem run_equalIn_valF (f : Nat) (a b : V3) (W : World) :
    (Op.equalIn (f + 2) 68 a.agg b.agg).run Tryz.prog W = .ok (decide (a = b)) W := by
  rw [← sameZ_is]
  obtain ⟨k, n, s⟩ := a; obtain ⟨k', n', s'⟩ := b
  have ht : Tryz.prog.underlying 68 = some (.struct (Tryz.prog.fieldsOf 68)) := by kernel_rfl
  have hp : Tryz.prog.stoodInHeld 68 = false := by kernel_rfl
  have p0 : ∀ a b c : Value, (part 3 #[a, b, c] 0).run Tryz.prog W = .ok a W := fun _ _ _ => rfl
  have p1 : ∀ a b c : Value, (part 3 #[a, b, c] 1).run Tryz.prog W = .ok b W := fun _ _ _ => rfl
  have p2 : ∀ a b c : Value, (part 9 #[a, b, c] 2).run Tryz.prog W = .ok c W := fun _ _ _ => rfl
  have q0 : ∀ a b : Int, (Op.equalIn (f + 1) 3 (.int .i64 a) (.int .i64 b)).run Tryz.prog W = .ok (a == b) W := fun a b => run_equalIn_int W f _ _ _ a b Tryz.underlying3
  have q1 : ∀ a b : ByteArray, (Op.equalIn (f + 1) 9 (.string a) (.string b)).run Tryz.prog W = .ok (a.toList == b.toList) W := fun a b => run_equalIn_string W f _ a b Tryz.underlying9
  show (Op.equalIn (f + 1 + 1) _ _ _).run _ _ = _
  rw [V3.agg, V3.agg, run_equalIn_struct W (f + 1) _ _ _ ht hp, fieldsVal]
  generalize hP : Tryz.prog = P at p0 p1 p2 q0 q1 ⊢
  simp only [Op.eqFields]
  rw [if_pos (by decide), if_pos (by decide), if_pos (by decide)]
  simp only [Sem.run_bind, p0, q0, Result.andThen]
  rcases Decidable.em (k = k') with rfl | hk <;> rcases Decidable.em (n = n') with rfl | hn <;> rcases Decidable.em (s = s') with rfl | hs
  all_goals try have hs3 := toList_ne hs
  all_goals simp [sameZ, *, Sem.run_bind, Result.andThen]
theorem run_equalIn_dotF (f : Nat) (a b : D2) (W : World) :
    (Op.equalIn (f + 2) 40 a.agg b.agg).run Tryz.prog W = .ok (decide (a = b)) W := by
  obtain ⟨a1, a2⟩ := a; obtain ⟨x, y⟩ := b
  have ht : Tryz.prog.underlying 40 = some (.struct (Tryz.prog.fieldsOf 40)) := by kernel_rfl
  have hp : Tryz.prog.stoodInHeld 40 = false := by kernel_rfl
  have p0 : ∀ a b : Value, (part 3 #[a, b] 0).run Tryz.prog W = .ok a W := fun _ _ => rfl
  have p1 : ∀ a b : Value, (part 3 #[a, b] 1).run Tryz.prog W = .ok b W := fun _ _ => rfl
  have q0 : ∀ a b : Int, (Op.equalIn (f + 1) 3 (.int .i64 a) (.int .i64 b)).run Tryz.prog W = .ok (a == b) W := fun a b => run_equalIn_int W f _ _ _ a b Tryz.underlying3
  show (Op.equalIn (f + 1 + 1) _ _ _).run _ _ = _
  rw [D2.agg, D2.agg, run_equalIn_struct W (f + 1) _ _ _ ht hp, fieldsDot]
  generalize hP : Tryz.prog = P at p0 p1 q0 ⊢
  simp only [Op.eqFields]
  rw [if_pos (by decide), if_pos (by decide)]
  simp only [Sem.run_bind, p0, q0, Result.andThen]
  rcases Decidable.em (a1 = x) with rfl | hk <;> rcases Decidable.em (a2 = y) with rfl | hn
  all_goals simp [*, Sem.run_bind, Result.andThen]
theorem fieldsPart : (Tryz.prog.fieldsOf 105).toList = [{ name := "Val", type := 68, offset := 0, embedded := false, tag := "", pkgPath := "", byteOffset := 0 }, { name := "Dot", type := 40, offset := 3, embedded := false, tag := "", pkgPath := "", byteOffset := 32 },
    { name := "At", type := 3, offset := 5, embedded := false, tag := "", pkgPath := "", byteOffset := 48 }, { name := "Time", type := 3, offset := 6, embedded := false, tag := "", pkgPath := "", byteOffset := 56 }, { name := "After", type := 40, offset := 7, embedded := false, tag := "", pkgPath := "", byteOffset := 64 },
    { name := "AfterAt", type := 3, offset := 9, embedded := false, tag := "", pkgPath := "", byteOffset := 80 }, { name := "Gone", type := 4, offset := 10, embedded := false, tag := "", pkgPath := "", byteOffset := 88 }] := by kernel_rfl
def sameP (a b : P11) : Bool := decide (a.v = b.v) && decide (a.d = b.d) && (a.i == b.i) && (a.t == b.t) && decide (a.a = b.a) && (a.j == b.j) && (a.g == b.g)
theorem sameP_is (a b : P11) : sameP a b = decide (a = b) := by
  obtain ⟨v, d, i, t, u, j, g⟩ := a; obtain ⟨v', d', i', t', u', j', g'⟩ := b
  refine Bool.eq_iff_iff.2 ?_
  simp [sameP, and_assoc]
theorem run_equalIn_part (a b : P11) (W : World) :
    (Op.equalIn 10000 105 a.agg b.agg).run Tryz.prog W = .ok (decide (a = b)) W := by
  rw [← sameP_is]
  obtain ⟨⟨vk, vn, vs⟩, ⟨dd, ds⟩, i, t, ⟨ad, az⟩, j, g⟩ := a; obtain ⟨⟨vk', vn', vs'⟩, ⟨dd', ds'⟩, i', t', ⟨ad', az'⟩, j', g'⟩ := b
  have ht : Tryz.prog.underlying 105 = some (.struct (Tryz.prog.fieldsOf 105)) := by kernel_rfl
  have hp : Tryz.prog.stoodInHeld 105 = false := by kernel_rfl
  have p0 : ∀ a b c d e f g h i j k : Value, (Go.part 68 #[a, b, c, d, e, f, g, h, i, j, k] 0).run Tryz.prog W = .ok (.agg #[a, b, c]) W := fun _ _ _ _ _ _ _ _ _ _ _ => rfl
  have p3 : ∀ a b c d e f g h i j k : Value, (Go.part 40 #[a, b, c, d, e, f, g, h, i, j, k] 3).run Tryz.prog W = .ok (.agg #[d, e]) W := fun _ _ _ _ _ _ _ _ _ _ _ => rfl
  have p5 : ∀ a b c d e f g h i j k : Value, (Go.part 3 #[a, b, c, d, e, f, g, h, i, j, k] 5).run Tryz.prog W = .ok f W := fun _ _ _ _ _ _ _ _ _ _ _ => rfl
  have p6 : ∀ a b c d e f g h i j k : Value, (Go.part 3 #[a, b, c, d, e, f, g, h, i, j, k] 6).run Tryz.prog W = .ok g W := fun _ _ _ _ _ _ _ _ _ _ _ => rfl
  have p7 : ∀ a b c d e f g h i j k : Value, (Go.part 40 #[a, b, c, d, e, f, g, h, i, j, k] 7).run Tryz.prog W = .ok (.agg #[h, i]) W := fun _ _ _ _ _ _ _ _ _ _ _ => rfl
  have p9 : ∀ a b c d e f g h i j k : Value, (Go.part 3 #[a, b, c, d, e, f, g, h, i, j, k] 9).run Tryz.prog W = .ok j W := fun _ _ _ _ _ _ _ _ _ _ _ => rfl
  have p10 : ∀ a b c d e f g h i j k : Value, (Go.part 4 #[a, b, c, d, e, f, g, h, i, j, k] 10).run Tryz.prog W = .ok k W := fun _ _ _ _ _ _ _ _ _ _ _ => rfl
  have q0 : ∀ a b : Int, (Op.equalIn 9999 3 (.int .i64 a) (.int .i64 b)).run Tryz.prog W = .ok (a == b) W := fun a b => run_equalIn_int W 9998 _ _ _ a b Tryz.underlying3
  have qv : ∀ k n k' n' s s', (Op.equalIn 9999 68 (.agg #[.int .i64 k, .int .i64 n, .string s]) (.agg #[.int .i64 k', .int .i64 n', .string s'])).run Tryz.prog W = .ok (decide ((⟨k, n, s⟩ : V3) = ⟨k', n', s'⟩)) W := fun k n k' n' s s' => run_equalIn_valF 9997 ⟨k, n, s⟩ ⟨k', n', s'⟩ W
  have qd : ∀ a b x y, (Op.equalIn 9999 40 (.agg #[.int .i64 a, .int .i64 b]) (.agg #[.int .i64 x, .int .i64 y])).run Tryz.prog W = .ok (decide ((⟨a, b⟩ : D2) = ⟨x, y⟩)) W := fun a b x y => run_equalIn_dotF 9997 ⟨a, b⟩ ⟨x, y⟩ W
  have qb : ∀ a b : Bool, (Op.equalIn 9999 4 (.bool a) (.bool b)).run Tryz.prog W = .ok (a == b) W := fun a b => run_equalIn_bool W 9998 _ a b Tryz.underlying4
  rw [show (10000 : Nat) = 9999 + 1 from rfl, run_equalIn_struct W 9999 _ _ _ ht hp, fieldsPart]
  generalize hP : Tryz.prog = P at p0 p3 p5 p6 p7 p9 p10 q0 qv qd qb ⊢
  simp only [Op.eqFields]
  rw [if_pos (by decide), if_pos (by decide), if_pos (by decide), if_pos (by decide), if_pos (by decide), if_pos (by decide), if_pos (by decide)]
  simp only [sameP]
  have r1 := qv vk vn vk' vn' vs vs'
  have r2 := qd dd ds dd' ds'
  have r3 := q0 i i'
  have r4 := q0 t t'
  have r5 := qd ad az ad' az'
  have r6 := q0 j j'
  have r7 := qb g g'
  obtain ⟨b1, e1⟩ : ∃ b, b = (decide ((⟨vk, vn, vs⟩ : V3) = ⟨vk', vn', vs'⟩)) := ⟨_, rfl⟩
  obtain ⟨b2, e2⟩ : ∃ b, b = (decide ((⟨dd, ds⟩ : D2) = ⟨dd', ds'⟩)) := ⟨_, rfl⟩
  obtain ⟨b3, e3⟩ : ∃ b, b = (i == i') := ⟨_, rfl⟩
  obtain ⟨b4, e4⟩ : ∃ b, b = (t == t') := ⟨_, rfl⟩
  obtain ⟨b5, e5⟩ : ∃ b, b = (decide ((⟨ad, az⟩ : D2) = ⟨ad', az'⟩)) := ⟨_, rfl⟩
  obtain ⟨b6, e6⟩ : ∃ b, b = (j == j') := ⟨_, rfl⟩
  obtain ⟨b7, e7⟩ : ∃ b, b = (g == g') := ⟨_, rfl⟩
  rw [← e1] at r1 ⊢
  rw [← e2] at r2 ⊢
  rw [← e3] at r3 ⊢
  rw [← e4] at r4 ⊢
  rw [← e5] at r5 ⊢
  rw [← e6] at r6 ⊢
  rw [← e7] at r7 ⊢
  clear e1 e2 e3 e4 e5 e6 e7 q0 qv qd qb ht hp hP
  cases b1
  · simp [*, Sem.run_bind, Result.andThen]
  cases b2
  · simp [*, Sem.run_bind, Result.andThen]
  cases b3
  · simp [*, Sem.run_bind, Result.andThen]
  cases b4
  · simp [*, Sem.run_bind, Result.andThen]
  cases b5
  · simp [*, Sem.run_bind, Result.andThen]
  cases b6
  · simp [*, Sem.run_bind, Result.andThen]
  cases b7
  · simp [*, Sem.run_bind, Result.andThen]
  simp [*, Sem.run_bind, Result.andThen]
end Go.Proofs.YtfljhnalmiibeaaGreat

