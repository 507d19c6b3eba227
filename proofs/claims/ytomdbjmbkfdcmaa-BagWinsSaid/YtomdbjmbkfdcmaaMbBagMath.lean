/- Layer 9, in plain mathematics: by what parts of sets stand, what puts, takes and joins make. -/
import Derived.Test.YtomdbjmbkfdcmaaMbMul
namespace Go.Proofs.Ytomdbjmbkfdcmaa
set_option maxRecDepth 100000
open Srt

/-- what a part goes by -/
structure Sp where
  n : Int
  d : D2
instance : DecidableEq Sp := fun a b =>
  if h : a.n = b.n ∧ a.d = b.d then isTrue (by cases a; cases b; obtain ⟨h1, h2⟩ := h; simp only at h1 h2; subst h1 h2; rfl)
  else isFalse (fun e => h (by subst e; exact ⟨rfl, rfl⟩))
def spP (p : P11) : Sp := ⟨p.v.n, p.d⟩
theorem sp_eq {a b : Sp} (h1 : a.n = b.n) (h2 : a.d.d = b.d.d) (h3 : a.d.s = b.d.s) : a = b := by
  obtain ⟨n, d, s⟩ := a; obtain ⟨m, e, t⟩ := b
  simp only at h1 h2 h3
  subst h1 h2 h3; rfl

/-- the first of three numbers that is not 0 -/
def or3 (x y z : Int) : Int := if x = 0 then (if y = 0 then z else y) else x
def cmpQ (a b : Sp) : Int := or3 (sgnI a.n b.n) (sgnI a.d.d b.d.d) (sgnI a.d.s b.d.s)
def ltQ (a b : Sp) : Bool := decide (a.n < b.n) || (decide (a.n = b.n) && aboveD b.d a.d)
theorem ltQ_iff (a b : Sp) : ltQ a b = true ↔ a.n < b.n ∨ (a.n = b.n ∧ (a.d.d < b.d.d ∨ (b.d.d = a.d.d ∧ a.d.s < b.d.s))) := by
  simp [ltQ, aboveD_iff]
theorem ltQ_no (a b : Sp) : ltQ a b = false ↔ ¬ (a.n < b.n ∨ (a.n = b.n ∧ (a.d.d < b.d.d ∨ (b.d.d = a.d.d ∧ a.d.s < b.d.s)))) := by rw [← ltQ_iff]; simp
theorem cmpQ_neg (a b : Sp) : cmpQ a b < 0 ↔ ltQ a b = true := by
  rw [ltQ_iff]; unfold cmpQ or3 sgnI; repeat' (first | omega | split)
theorem cmpQ_lt (a b : Sp) : decide (cmpQ a b < 0) = ltQ a b := by
  rcases h : ltQ a b with _ | _
  · exact decide_eq_false (fun e => by rw [cmpQ_neg, h] at e; cases e)
  · exact decide_eq_true ((cmpQ_neg _ _).2 h)
theorem ltQ_trans {a b c : Sp} (h1 : ltQ a b = true) (h2 : ltQ b c = true) : ltQ a c = true := by rw [ltQ_iff] at *; omega
theorem ltQ_irr (a : Sp) : ltQ a a = false := by rw [ltQ_no]; omega
theorem ltQ_or {a b : Sp} (h : a ≠ b) : ltQ a b = true ∨ ltQ b a = true := by
  rw [ltQ_iff, ltQ_iff]
  have : ¬ (a.n = b.n ∧ a.d.d = b.d.d ∧ a.d.s = b.d.s) := fun e => h (sp_eq e.1 e.2.1 e.2.2)
  omega

/-- is p ahead of q -/
def ltB (p q : P11) : Bool := ltQ (spP p) (spP q)
theorem weakB : Weak ltB where
  irr a := ltQ_irr _
  trans a b c := fun h1 h2 => ltQ_trans h1 h2
  neg a b c := by rw [ltB, ltB, ltB, ltQ_no, ltQ_no, ltQ_no]; omega

/-- x, ahead of the first one that stands behind it -/
def insB (l : List P11) (x : P11) : List P11 := merge ltB l [x]
theorem insB_nil (x : P11) : insB [] x = [x] := merge_nil_left _
theorem insB_cons (p : P11) (l : List P11) (x : P11) : insB (p :: l) x = if ltB x p = true then x :: p :: l else p :: insB l x := by
  rw [insB, merge_cons]
  simp only [merge_nil_right]
  rfl
/-- at which place -/
def placeB (l : List P11) (s : Sp) : Nat := l.findIdx fun p => ltQ s (spP p)
theorem placeB_le (l : List P11) (s : Sp) : placeB l s ≤ l.length := List.findIdx_le_length
theorem insB_place (l : List P11) (x : P11) : insB l x = l.take (placeB l (spP x)) ++ x :: l.drop (placeB l (spP x)) := by
  induction l with
  | nil => rw [insB_nil]; rfl
  | cons p l ih =>
    rw [insB_cons, placeB, List.findIdx_cons, ltB]
    cases h : ltQ (spP x) (spP p) with
    | true => simp
    | false =>
      rw [ih]
      simp [placeB]
theorem insB_len (l : List P11) (x : P11) : (insB l x).length = l.length + 1 := by rw [insB, merge_len]; rfl
theorem insB_mem (l : List P11) (x y : P11) : y ∈ insB l x ↔ y ∈ l ∨ y = x := by
  rw [insB, (merge_perm l [x]).mem_iff, List.mem_append, List.mem_singleton]

/-- rising -/
def RiseB (l : List P11) : Prop := l.Pairwise fun p q => ltB p q = true
theorem RiseB.filter {l : List P11} (h : RiseB l) (p : P11 → Bool) : RiseB (l.filter p) := List.Pairwise.filter p h
theorem RiseB.ins {l : List P11} (h : RiseB l) {x : P11} (hx : ∀ p ∈ l, spP p ≠ spP x) : RiseB (insB l x) := by
  induction l with
  | nil => rw [insB_nil]; exact List.pairwise_singleton _ _
  | cons p l ih =>
    have h2 := List.pairwise_cons.1 h
    rw [insB_cons]
    split
    · rename_i ha
      refine List.pairwise_cons.2 ⟨fun q hq => ?_, h⟩
      rcases List.mem_cons.1 hq with rfl | hq
      · exact ha
      · exact ltQ_trans ha (h2.1 q hq)
    · rename_i ha
      refine List.pairwise_cons.2 ⟨fun q hq => ?_, ih h2.2 (fun q hq => hx q (List.mem_cons_of_mem _ hq))⟩
      rcases (insB_mem _ _ _).1 hq with hq | rfl
      · exact h2.1 q hq
      · rcases ltQ_or (hx p (List.mem_cons_self ..)) with h3 | h3
        · exact h3
        · exact absurd h3 ha
/-- rising rows of the same members are the same -/
theorem rise_eq {α : Type} {r : α → α → Prop} (irr : ∀ a, ¬ r a a) (tr : ∀ a b c, r a b → r b c → r a c) : ∀ {a b : List α}, a.Pairwise r → b.Pairwise r → (∀ x, x ∈ a ↔ x ∈ b) → a = b
  | [], [], _, _, _ => rfl
  | [], y :: b, _, _, h => absurd ((h y).2 (List.mem_cons_self ..)) (by simp)
  | x :: a, [], _, _, h => absurd ((h x).1 (List.mem_cons_self ..)) (by simp)
  | x :: a, y :: b, ha, hb, h => by
    have ha2 := List.pairwise_cons.1 ha
    have hb2 := List.pairwise_cons.1 hb
    have hxy : x = y := by
      rcases List.mem_cons.1 ((h x).1 (List.mem_cons_self ..)) with e | e
      · exact e
      · rcases List.mem_cons.1 ((h y).2 (List.mem_cons_self ..)) with e2 | e2
        · exact e2.symm
        · exact absurd (tr _ _ _ (hb2.1 x e) (ha2.1 y e2)) (irr _)
    subst hxy
    rw [rise_eq irr tr ha2.2 hb2.2 fun z => ?_]
    constructor
    · intro hz
      rcases List.mem_cons.1 ((h z).1 (List.mem_cons_of_mem _ hz)) with e | e
      · subst e; exact absurd (ha2.1 _ hz) (irr _)
      · exact e
    · intro hz
      rcases List.mem_cons.1 ((h z).2 (List.mem_cons_of_mem _ hz)) with e | e
      · subst e; exact absurd (hb2.1 _ hz) (irr _)
      · exact e
theorem RiseB.eq {a b : List P11} (ha : RiseB a) (hb : RiseB b) (h : ∀ x, x ∈ a ↔ x ∈ b) : a = b :=
  rise_eq (r := fun p q => ltB p q = true) (fun a h => absurd (h.symm.trans (ltQ_irr (spP a))) (by decide)) (fun _ _ _ h1 h2 => ltQ_trans h1 h2) ha hb h

/-- the part that stands there, without anything else -/
def partB (s : Sp) : P11 := part0 ⟨1, s.n, ⟨#[]⟩⟩ s.d
theorem spP_partB (s : Sp) : spP (partB s) = s := rfl
/-- is a part there -/
def inB (l : List P11) (s : Sp) : Bool := l.any fun p => decide (spP p = s)
theorem inB_iff (l : List P11) (s : Sp) : inB l s = true ↔ ∃ p ∈ l, spP p = s := by simp [inB]
theorem inB_no (l : List P11) (s : Sp) : inB l s = false ↔ ∀ p ∈ l, spP p ≠ s := by
  rw [← Bool.not_eq_true, inB_iff]; simp
def putB (l : List P11) (s : Sp) : List P11 := if inB l s = true then l else insB l (partB s)
def leavesB (n : Int) (d : D2) (kn : List Int) (p : P11) : Bool := !decide (p.v.n = n) || (!decide (p.d = d) && !knowsV kn p.d)
def takeB (l : List P11) (n : Int) (d : D2) (kn : List Int) : List P11 := l.filter (leavesB n d kn)
def keepsB (b : List P11) (kb : List Int) (p : P11) : Bool := inB b (spP p) || !knowsV kb p.d
def lacksB (a : List P11) (ka : List Int) (p : P11) : Bool := !inB a (spP p) && !knowsV ka p.d
def bjoin (a b : List P11) (ka kb : List Int) : List P11 := isort ltB (a.filter (keepsB b kb) ++ b.filter (lacksB a ka))
theorem bjoin_steps (a b : List P11) (ka kb : List Int) : bjoin a b ka kb = (b.filter (lacksB a ka)).foldl insB ((a.filter (keepsB b kb)).foldl insB []) := by
  rw [bjoin, isort, List.foldl_append]; rfl
def hasB (l : List P11) (n : Int) : Bool := l.any fun p => decide (p.v.n = n)
theorem hasB_iff (l : List P11) (n : Int) : hasB l n = true ↔ ∃ p ∈ l, p.v.n = n := by simp [hasB]

/-- may a part stand in a set -/
def okB (p : P11) : Bool := decide (1 ≤ p.d.d) && decide (p.d.d ≤ 64) && decide (1 ≤ p.d.s) && decide (p.d.s ≤ 1048576) && decide (p.v.k = 1) && p.v.right && decide (p = part0 p.v p.d)
def RightB (l : List P11) : Prop := (∀ p ∈ l, okB p = true) ∧ RiseB l
noncomputable instance (l : List P11) : Decidable (RightB l) := Classical.propDecidable _
theorem RightB.filter {l : List P11} (h : RightB l) (p : P11 → Bool) : RightB (l.filter p) := ⟨fun q hq => h.1 q (List.mem_filter.1 hq).1, h.2.filter p⟩
theorem rightB_step {l : List P11} {k : Nat} {x : P11} (hx : l[k]? = some x) (h : RightB (l.take k)) (ho : okB x = true) (hr : ∀ y, 0 < k → l[k - 1]? = some y → ltB y x = true) : RightB (l.take (k + 1)) := by
  have he : l.take (k + 1) = l.take k ++ [x] := by rw [List.take_add_one, hx]; rfl
  rw [he]
  refine ⟨fun p hp => ?_, ?_⟩
  · rcases List.mem_append.1 hp with hp | hp
    · exact h.1 p hp
    · rw [List.mem_singleton] at hp; subst hp; exact ho
  · refine List.pairwise_append.2 ⟨h.2, List.pairwise_singleton _ _, fun p hp q hq => ?_⟩
    rw [List.mem_singleton] at hq
    subst hq
    rcases Nat.eq_zero_or_pos k with h0 | h0
    · subst h0; simp at hp
    · have hlt : k - 1 < l.length := by have := (List.getElem?_eq_some_iff.1 hx).1; omega
      have hy := List.getElem?_eq_getElem hlt
      have ha := hr _ h0 hy
      have he2 : l.take k = l.take (k - 1) ++ [l[k - 1]] := by
        conv => lhs; rw [show k = k - 1 + 1 by omega]
        rw [List.take_add_one, hy]; rfl
      rw [he2] at hp
      rcases List.mem_append.1 hp with hp | hp
      · have h2 := h.2
        rw [he2] at h2
        exact ltQ_trans ((List.pairwise_append.1 h2).2.2 p hp _ (by simp)) ha
      · rw [List.mem_singleton] at hp; subst hp; exact ha
theorem rightB_bad {l : List P11} {k : Nat} {x : P11} (hx : l[k]? = some x) (ho : okB x = false) : ¬ RightB l := fun h => by
  have := h.1 x (List.mem_of_getElem? hx); rw [ho] at this; cases this
theorem rightB_low {l : List P11} {k : Nat} {x y : P11} (hx : l[k + 1]? = some x) (hy : l[k]? = some y) (hr : ltB y x = false) : ¬ RightB l := fun h => by
  have h2 := List.pairwise_iff_getElem.1 h.2 k (k + 1) (List.getElem?_eq_some_iff.1 hy).1 (List.getElem?_eq_some_iff.1 hx).1 (by omega)
  rw [(List.getElem?_eq_some_iff.1 hx).2, (List.getElem?_eq_some_iff.1 hy).2, hr] at h2
  cases h2
noncomputable def rightS (k : Int) (v : V3) (l : List P11) : Bool := decide (k = 3) && decide (v = zeroV) && decide (RightB l)
end Go.Proofs.Ytomdbjmbkfdcmaa

