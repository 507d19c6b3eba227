/- Layer 7, in plain mathematics: dots' order, a part in its place, what writes and joins make. -/
import Derived.Test.YtieaobeidlhefaaMulMem
namespace Go.Proofs.Ytieaobeidlhefaa
set_option maxRecDepth 100000
open Srt

instance : DecidableEq V3 := fun a b =>
  if h : a.k = b.k ∧ a.n = b.n ∧ a.s = b.s then isTrue (by cases a; cases b; obtain ⟨h1, h2, h3⟩ := h; simp only at h1 h2 h3; subst h1 h2 h3; rfl)
  else isFalse (fun e => h (by subst e; exact ⟨rfl, rfl, rfl⟩))
instance : DecidableEq P11 := fun a b =>
  if h : a.v = b.v ∧ a.d = b.d ∧ a.i = b.i ∧ a.t = b.t ∧ a.a = b.a ∧ a.j = b.j ∧ a.g = b.g then isTrue (by cases a; cases b; obtain ⟨h1, h2, h3, h4, h5, h6, h7⟩ := h; simp only at h1 h2 h3 h4 h5 h6 h7; subst h1 h2 h3 h4 h5 h6 h7; rfl)
  else isFalse (fun e => h (by subst e; exact ⟨rfl, rfl, rfl, rfl, rfl, rfl, rfl⟩))

/-- does a stand behind b -/
def aboveD (a b : D2) : Bool := decide (b.d < a.d) || (decide (a.d = b.d) && decide (b.s < a.s))
def sgnI (x y : Int) : Int := if x < y then -1 else if y < x then 1 else 0
def cmpD (a b : D2) : Int := if sgnI a.d b.d = 0 then sgnI a.s b.s else sgnI a.d b.d

theorem aboveD_iff (a b : D2) : aboveD a b = true ↔ b.d < a.d ∨ (a.d = b.d ∧ b.s < a.s) := by simp [aboveD]
theorem aboveD_no (a b : D2) : aboveD a b = false ↔ ¬ (b.d < a.d ∨ (a.d = b.d ∧ b.s < a.s)) := by rw [← aboveD_iff]; simp
theorem cmpD_pos (a b : D2) : 0 < cmpD a b ↔ aboveD a b = true := by
  rw [aboveD_iff]; unfold cmpD sgnI; split <;> (split <;> try split) <;> (try split at *) <;> (try split at *) <;> omega
theorem cmpD_neg (a b : D2) : cmpD a b < 0 ↔ aboveD b a = true := by
  rw [aboveD_iff]; unfold cmpD sgnI; split <;> (split <;> try split) <;> (try split at *) <;> (try split at *) <;> omega
theorem cmpD_lt (a b : D2) : decide (cmpD a b < 0) = aboveD b a := by
  rcases h : aboveD b a with _ | _
  · exact decide_eq_false (fun e => by rw [cmpD_neg, h] at e; cases e)
  · exact decide_eq_true ((cmpD_neg _ _).2 h)
theorem cmpD_gt (a b : D2) : decide (0 < cmpD a b) = aboveD a b := by
  rcases h : aboveD a b with _ | _
  · exact decide_eq_false (fun e => by rw [cmpD_pos, h] at e; cases e)
  · exact decide_eq_true ((cmpD_pos _ _).2 h)

/-- is p ahead of q -/
def ltP (p q : P11) : Bool := aboveD q.d p.d
theorem weakP : Weak ltP where
  irr a := by rw [ltP, aboveD_no]; omega
  trans a b c := by rw [ltP, ltP, ltP, aboveD_iff, aboveD_iff, aboveD_iff]; omega
  neg a b c := by rw [ltP, ltP, ltP, aboveD_no, aboveD_no, aboveD_no]; omega

/-- x, ahead of the first one that stands behind it -/
def insP (l : List P11) (x : P11) : List P11 := merge ltP l [x]
theorem insP_nil (x : P11) : insP [] x = [x] := merge_nil_left _
theorem insP_cons (p : P11) (l : List P11) (x : P11) : insP (p :: l) x = if aboveD p.d x.d = true then x :: p :: l else p :: insP l x := by
  rw [insP, merge_cons]
  simp only [ltP, merge_nil_right]
  rfl
/-- at which place -/
def place (l : List P11) (d : D2) : Nat := l.findIdx fun p => aboveD p.d d
theorem place_le (l : List P11) (d : D2) : place l d ≤ l.length := List.findIdx_le_length
theorem insP_place (l : List P11) (x : P11) : insP l x = l.take (place l x.d) ++ x :: l.drop (place l x.d) := by
  induction l with
  | nil => rw [insP_nil]; rfl
  | cons p l ih =>
    rw [insP_cons, place, List.findIdx_cons]
    cases h : aboveD p.d x.d with
    | true => simp
    | false =>
      rw [ih]
      simp [place]
theorem insP_len (l : List P11) (x : P11) : (insP l x).length = l.length + 1 := by rw [insP, merge_len]; rfl
theorem insP_mem (l : List P11) (x y : P11) : y ∈ insP l x ↔ y ∈ l ∨ y = x := by
  rw [insP, (merge_perm l [x]).mem_iff, List.mem_append, List.mem_singleton]

/-- rising -/
def Rise (l : List P11) : Prop := l.Pairwise fun p q => aboveD q.d p.d = true
theorem aboveD_trans {a b c : D2} (h1 : aboveD a b = true) (h2 : aboveD b c = true) : aboveD a c = true := by
  rw [aboveD_iff] at *; omega
theorem aboveD_irr (a : D2) : aboveD a a = false := by rw [aboveD_no]; omega
theorem above_or {a b : D2} (h : a ≠ b) : aboveD a b = true ∨ aboveD b a = true := by
  rw [aboveD_iff, aboveD_iff]
  obtain ⟨a1, a2⟩ := a; obtain ⟨b1, b2⟩ := b
  have : ¬ (a1 = b1 ∧ a2 = b2) := fun e => h (by rw [e.1, e.2])
  simp only
  omega
theorem Rise.filter {l : List P11} (h : Rise l) (p : P11 → Bool) : Rise (l.filter p) := List.Pairwise.filter p h
theorem Rise.ins {l : List P11} (h : Rise l) {x : P11} (hx : ∀ p ∈ l, p.d ≠ x.d) : Rise (insP l x) := by
  induction l with
  | nil => rw [insP_nil]; exact List.pairwise_singleton _ _
  | cons p l ih =>
    have h2 := List.pairwise_cons.1 h
    rw [insP_cons]
    split
    · rename_i ha
      refine List.pairwise_cons.2 ⟨fun q hq => ?_, h⟩
      rcases List.mem_cons.1 hq with rfl | hq
      · exact ha
      · exact aboveD_trans (h2.1 q hq) ha
    · rename_i ha
      refine List.pairwise_cons.2 ⟨fun q hq => ?_, ih h2.2 (fun q hq => hx q (List.mem_cons_of_mem _ hq))⟩
      rcases (insP_mem _ _ _).1 hq with hq | rfl
      · exact h2.1 q hq
      · rcases above_or (hx p (List.mem_cons_self ..)) with h3 | h3
        · exact absurd h3 ha
        · exact h3
/-- rising rows of the same parts are the same -/
theorem Rise.eq : ∀ {a b : List P11}, Rise a → Rise b → (∀ x, x ∈ a ↔ x ∈ b) → a = b
  | [], [], _, _, _ => rfl
  | [], y :: b, _, _, h => absurd ((h y).2 (List.mem_cons_self ..)) (by simp)
  | x :: a, [], _, _, h => absurd ((h x).1 (List.mem_cons_self ..)) (by simp)
  | x :: a, y :: b, ha, hb, h => by
    have ha2 := List.pairwise_cons.1 ha
    have hb2 := List.pairwise_cons.1 hb
    have hxy : x = y := by
      rcases List.mem_cons.1 ((h x).1 (List.mem_cons_self ..)) with e | e
      · exact e
      · rcases List.mem_cons.1 ((h y).2 (List.mem_cons_self ..)) with e2 | e2
        · exact e2.symm
        · have h1 := hb2.1 x e
          have h2 := ha2.1 y e2
          have := aboveD_trans h1 h2
          rw [aboveD_irr] at this
          cases this
    subst hxy
    rw [Rise.eq ha2.2 hb2.2 fun z => ?_]
    constructor
    · intro hz
      rcases List.mem_cons.1 ((h z).1 (List.mem_cons_of_mem _ hz)) with e | e
      · subst e; have := ha2.1 _ hz; rw [aboveD_irr] at this; cases this
      · exact e
    · intro hz
      rcases List.mem_cons.1 ((h z).2 (List.mem_cons_of_mem _ hz)) with e | e
      · subst e; have := hb2.1 _ hz; rw [aboveD_irr] at this; cases this
      · exact e

/-- a part of a value and a dot alone -/
def part0 (v : V3) (d : D2) : P11 := ⟨v, d, 0, 0, ⟨0, 0⟩, 0, false⟩
abbrev knowsV (kn : List Int) (d : D2) : Bool := hasV kn d.d d.s
/-- what stays at a write -/
def keptW (d : D2) (kn : List Int) (p : P11) : Bool := !decide (p.d = d) && !knowsV kn p.d
def writeL (l : List P11) (v : V3) (d : D2) (kn : List Int) : List P11 := insP (l.filter (keptW d kn)) (part0 v d)
/-- a dot is among parts -/
def dotIn (l : List P11) (d : D2) : Bool := l.any fun p => decide (p.d = d)
theorem dotIn_iff (l : List P11) (d : D2) : dotIn l d = true ↔ ∃ p ∈ l, p.d = d := by simp [dotIn]
def joinA (b : List P11) (kb : List Int) (p : P11) : Bool := dotIn b p.d || !knowsV kb p.d
def joinB (a : List P11) (ka : List Int) (p : P11) : Bool := !dotIn a p.d && !knowsV ka p.d
def joinL (a b : List P11) (ka kb : List Int) : List P11 := isort ltP (a.filter (joinA b kb) ++ b.filter (joinB a ka))
theorem joinL_steps (a b : List P11) (ka kb : List Int) : joinL a b ka kb = (b.filter (joinB a ka)).foldl insP ((a.filter (joinA b kb)).foldl insP []) := by
  rw [joinL, isort, List.foldl_append]; rfl

/-- may a part stand in a cell -/
def okP (p : P11) : Bool := decide (1 ≤ p.d.d) && decide (p.d.d ≤ 64) && decide (1 ≤ p.d.s) && decide (p.d.s ≤ 1048576) && p.v.right && decide (p = part0 p.v p.d)
/-- all parts may stand in a cell -/
def RightL (l : List P11) : Prop := (∀ p ∈ l, okP p = true) ∧ Rise l
noncomputable instance (l : List P11) : Decidable (RightL l) := Classical.propDecidable _
theorem RightL.take {l : List P11} (h : RightL l) (k : Nat) : RightL (l.take k) := ⟨fun p hp => h.1 p (List.mem_of_mem_take hp), List.Pairwise.sublist (List.take_sublist k l) h.2⟩
/-- the next one -/
theorem right_step {l : List P11} {k : Nat} {x : P11} (hx : l[k]? = some x) (h : RightL (l.take k)) (ho : okP x = true) (hr : ∀ y, 0 < k → l[k - 1]? = some y → aboveD x.d y.d = true) : RightL (l.take (k + 1)) := by
  have he : l.take (k + 1) = l.take k ++ [x] := by rw [List.take_add_one, hx]; rfl
  rw [he]
  refine ⟨fun p hp => ?_, ?_⟩
  · rcases List.mem_append.1 hp with hp | hp
    · exact h.1 p hp
    · rw [List.mem_singleton] at hp; subst hp; exact ho
  · refine List.pairwise_append.2 ⟨h.2, List.pairwise_singleton _ _, fun p hp q hq => ?_⟩
    rw [List.mem_singleton] at hq
    subst hq
    rcases Nat.eq_zero_or_pos k with h0 | h0
    · subst h0; simp at hp
    · have hlt : k - 1 < l.length := by have := (List.getElem?_eq_some_iff.1 hx).1; omega
      have hy := List.getElem?_eq_getElem hlt
      have ha := hr _ h0 hy
      have he2 : l.take k = l.take (k - 1) ++ [l[k - 1]] := by
        conv => lhs; rw [show k = k - 1 + 1 by omega]
        rw [List.take_add_one, hy]; rfl
      rw [he2] at hp
      rcases List.mem_append.1 hp with hp | hp
      · have h2 := h.2
        rw [he2] at h2
        exact aboveD_trans ha ((List.pairwise_append.1 h2).2.2 p hp _ (by simp))
      · rw [List.mem_singleton] at hp; subst hp; exact ha
theorem right_bad {l : List P11} {k : Nat} {x : P11} (hx : l[k]? = some x) (ho : okP x = false) : ¬ RightL l := fun h => by
  have := h.1 x (List.mem_of_getElem? hx); rw [ho] at this; cases this
theorem right_low {l : List P11} {k : Nat} {x y : P11} (hx : l[k + 1]? = some x) (hy : l[k]? = some y) (hr : aboveD x.d y.d = false) : ¬ RightL l := fun h => by
  have h2 := List.pairwise_iff_getElem.1 h.2 k (k + 1) (List.getElem?_eq_some_iff.1 hy).1 (List.getElem?_eq_some_iff.1 hx).1 (by omega)
  rw [(List.getElem?_eq_some_iff.1 hx).2, (List.getElem?_eq_some_iff.1 hy).2, hr] at h2
  cases h2
def zeroV : V3 := ⟨0, 0, ByteArray.empty⟩
noncomputable def rightC (k : Int) (v : V3) (l : List P11) : Bool := decide (k = 1) && decide (v = zeroV) && decide (RightL l)
end Go.Proofs.Ytieaobeidlhefaa
