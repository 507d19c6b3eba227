/- Several texts laid together: TxtMath, ClkCmp. -/
import Derived.Test.YtfljhnalmiibeaaGreatMbValMath
import Derived.Test.YtfljhnalmiibeaaGreatMbBagSorted
import Derived.Deep.RegionHeld3
import Derived.Deep.RegionWith
import Derived.Laws.NewBlocks
import Derived.Deep.DeepCutAuto
import Derived.ChangeKeysEq
import Derived.Deep.QuietTactic
namespace Go.Proofs.YtfljhnalmiibeaaGreat
set_option maxRecDepth 100000
/-- what a part goes by -/
structure N3 where
  d : D2
  i : Int
deriving DecidableEq
def zN : N3 := ⟨⟨0, 0⟩, 0⟩
def nm (p : P11) : N3 := ⟨p.d, p.i⟩
def upN (p : P11) : N3 := ⟨p.a, p.j⟩
def stP (p : P11) : S3 := ⟨p.t, p.d.d, p.d.s⟩
theorem lessS_iff10 (a b : S3) : lessS a b = true ↔ a.t < b.t ∨ (a.t = b.t ∧ (a.d < b.d ∨ (a.d = b.d ∧ a.q < b.q))) := by
  unfold lessS
  split
  · rw [decide_eq_true_iff]; omega
  · split <;> rw [decide_eq_true_iff] <;> omega
theorem lessS_no10 (a b : S3) : lessS a b = false ↔ ¬ (a.t < b.t ∨ (a.t = b.t ∧ (a.d < b.d ∨ (a.d = b.d ∧ a.q < b.q)))) := by rw [← lessS_iff10]; simp
theorem s3_eq_iff (a b : S3) : a = b ↔ a.t = b.t ∧ a.d = b.d ∧ a.q = b.q := by
  constructor
  · rintro rfl; exact ⟨rfl, rfl, rfl⟩
  · rintro ⟨h1, h2, h3⟩; exact s3_ext h1 h2 h3
theorem stP_eq_iff (p q : P11) : stP p = stP q ↔ p.t = q.t ∧ p.d.d = q.d.d ∧ p.d.s = q.d.s := s3_eq_iff _ _
/-- p is ahead of q, of two that stand behind the same -/
def ahead (p q : P11) : Bool := lessS (stP q) (stP p) || (decide (stP p = stP q) && decide (p.i < q.i))
/-- p was there when q was written -/
def older (p q : P11) : Bool := lessS (stP p) (stP q) || (decide (stP p = stP q) && decide (p.i < q.i))
def cmpT (p q : P11) : Int := if lessS (stP q) (stP p) = true then -1 else if lessS (stP p) (stP q) = true then 1 else cmpI p.i q.i
theorem ahead_iff (p q : P11) : ahead p q = true ↔ (q.t < p.t ∨ (q.t = p.t ∧ (q.d.d < p.d.d ∨ (q.d.d = p.d.d ∧ q.d.s < p.d.s)))) ∨ ((p.t = q.t ∧ p.d.d = q.d.d ∧ p.d.s = q.d.s) ∧ p.i < q.i) := by
  rw [ahead, Bool.or_eq_true, Bool.and_eq_true, lessS_iff10, decide_eq_true_iff, decide_eq_true_iff, stP_eq_iff]; rfl
theorem older_iff (p q : P11) : older p q = true ↔ (p.t < q.t ∨ (p.t = q.t ∧ (p.d.d < q.d.d ∨ (p.d.d = q.d.d ∧ p.d.s < q.d.s)))) ∨ ((p.t = q.t ∧ p.d.d = q.d.d ∧ p.d.s = q.d.s) ∧ p.i < q.i) := by
  rw [older, Bool.or_eq_true, Bool.and_eq_true, lessS_iff10, decide_eq_true_iff, decide_eq_true_iff, stP_eq_iff]; rfl
theorem ahead_irr (p : P11) : ahead p p = false := by
  rw [← Bool.not_eq_true, ahead_iff]; omega
theorem ahead_asym {p q : P11} (h : ahead p q = true) : ahead q p = false := by
  rw [← Bool.not_eq_true]; rw [ahead_iff] at h ⊢; omega
theorem ahead_trans {p q r : P11} (h : ahead p q = true) (k : ahead q r = true) : ahead p r = true := by
  rw [ahead_iff] at *; omega
theorem ahead_ntrans {p q r : P11} (h : ahead p q = false) (k : ahead q r = false) : ahead p r = false := by
  rw [← Bool.not_eq_true] at *; rw [ahead_iff] at *; omega
theorem older_irr (p : P11) : ¬ older p p = true := by
  rw [older_iff]; omega
theorem older_trans {p q r : P11} (h : older p q = true) (k : older q r = true) : older p r = true := by
  rw [older_iff] at *; omega
theorem ahead_tot {p q : P11} (h : ahead p q = false) (k : ahead q p = false) : nm p = nm q ∧ p.t = q.t := by
  rw [← Bool.not_eq_true] at *; rw [ahead_iff] at *
  have h1 : p.d.d = q.d.d := by omega
  have h2 : p.d.s = q.d.s := by omega
  have h3 : p.i = q.i := by omega
  refine ⟨?_, by omega⟩
  simp only [nm, N3.mk.injEq]
  refine ⟨?_, h3⟩
  obtain ⟨_, ⟨a, b⟩, _⟩ := p; obtain ⟨_, ⟨c, d⟩, _⟩ := q
  simp only at h1 h2
  rw [h1, h2]
theorem cmpT_lt (p q : P11) : decide (cmpT p q < 0) = ahead p q := by
  unfold cmpT
  rw [ahead]
  cases h1 : lessS (stP q) (stP p) with
  | true => rfl
  | false =>
    rw [if_neg (by simp)]
    cases h2 : lessS (stP p) (stP q) with
    | true =>
      rw [if_pos rfl, Bool.false_or]
      have : ¬ stP p = stP q := fun e => by rw [e] at h2; rw [lessS_iff10] at h2; omega
      simp [this]
    | false =>
      rw [if_neg (by simp), Bool.false_or, cmpI_less]
      have : stP p = stP q := by
        rw [lessS_no10] at h1 h2
        rw [s3_eq_iff]; omega
      simp [this]
/-- may a part be, but for what it stands behind -/
def formedT (p : P11) : Bool := decide (p.v = ⟨1, p.v.n, ByteArray.empty⟩) && (decide (0 ≤ p.v.n ∧ p.v.n ≤ 255) && (decide (0 ≤ p.i ∧ p.i < 2000) && (decide (1 ≤ p.t ∧ p.t ≤ 1125899906842624) && (decide (1 ≤ p.d.d ∧ p.d.d ≤ 64) && decide (1 ≤ p.d.s ∧ p.d.s ≤ 1048576)))))
theorem formedT_iff (p : P11) : formedT p = true ↔ p.v = ⟨1, p.v.n, ByteArray.empty⟩ ∧ (0 ≤ p.v.n ∧ p.v.n ≤ 255) ∧ (0 ≤ p.i ∧ p.i < 2000) ∧ (1 ≤ p.t ∧ p.t ≤ 1125899906842624) ∧ (1 ≤ p.d.d ∧ p.d.d ≤ 64) ∧ 1 ≤ p.d.s ∧ p.d.s ≤ 1048576 := by
  simp only [formedT, Bool.and_eq_true, decide_eq_true_iff]
theorem formedT_ne {p : P11} (h : formedT p = true) : nm p ≠ zN := by
  rw [formedT_iff] at h
  intro e
  have : p.d.d = 0 := by
    have h2 : (nm p).d.d = zN.d.d := by rw [e]
    exact h2
  omega
/-- parts that are whole -/
def WholeT (l : List P11) : Prop :=
  (∀ p ∈ l, formedT p = true) ∧ l.Pairwise (fun p q => nm p ≠ nm q) ∧ (∀ p ∈ l, ∀ q ∈ l, p.d = q.d → p.t = q.t) ∧ (∀ p ∈ l, upN p = zN ∨ ∃ q ∈ l, nm q = upN p ∧ older q p = true)
instance (l : List P11) : Decidable (WholeT l) := by unfold WholeT; infer_instance
theorem pair_ne {l : List P11} (h : l.Pairwise (fun p q => nm p ≠ nm q)) {p q : P11} (hp : p ∈ l) (hq : q ∈ l) (e : nm p = nm q) : p = q := by
  induction l with
  | nil => cases hp
  | cons x l ih =>
    rw [List.pairwise_cons] at h
    rcases List.mem_cons.1 hp with h1 | h1 <;> rcases List.mem_cons.1 hq with h2 | h2
    · rw [h1, h2]
    · rw [h1] at e; exact absurd e (h.1 _ h2)
    · rw [h2] at e; exact absurd e.symm (h.1 _ h1)
    · exact ih h.2 h1 h2
theorem WholeT.inj {l : List P11} (h : WholeT l) {p q : P11} (hp : p ∈ l) (hq : q ∈ l) (e : nm p = nm q) : p = q := pair_ne h.2.1 hp hq e
theorem WholeT.nodup {l : List P11} (h : WholeT l) : l.Nodup := h.2.1.imp (fun hn e => hn (by rw [e]))
theorem WholeT.perm {l l' : List P11} (h : WholeT l) (hp : l.Perm l') : WholeT l' :=
  ⟨fun p m => h.1 p (hp.mem_iff.2 m), h.2.1.perm hp (fun hn e => hn e.symm), fun p m q k => h.2.2.1 p (hp.mem_iff.2 m) q (hp.mem_iff.2 k),
    fun p m => (h.2.2.2 p (hp.mem_iff.2 m)).imp id fun ⟨q, hq, h1⟩ => ⟨q, hp.mem_iff.1 hq, h1⟩⟩
/-- in rising order of 'ahead' -/
def insT (x : P11) : List P11 → List P11
  | [] => [x]
  | y :: l => if ahead y x = true then y :: insT x l else x :: y :: l
def srtT (l : List P11) : List P11 := l.foldr insT []
theorem insT_perm (x : P11) : ∀ l, (insT x l).Perm (x :: l)
  | [] => .refl _
  | y :: l => by
    rw [insT]
    split
    · exact ((insT_perm x l).cons y).trans (List.Perm.swap _ _ _)
    · exact .refl _
theorem srtT_perm (l : List P11) : (srtT l).Perm l := by
  induction l with
  | nil => exact .refl _
  | cons x l ih => exact (insT_perm x _).trans (ih.cons x)
theorem insT_sorted {x : P11} : ∀ {l : List P11}, l.Pairwise (fun a b => ahead a b = true) → (∀ y ∈ l, nm x ≠ nm y) → (insT x l).Pairwise (fun a b => ahead a b = true)
  | [], _, _ => by simp [insT]
  | y :: l, h, hn => by
    rw [List.pairwise_cons] at h
    rw [insT]
    split
    · rename_i hy
      refine List.pairwise_cons.2 ⟨fun z hz => ?_, insT_sorted h.2 (fun z hz => hn z (.tail _ hz))⟩
      rcases List.mem_cons.1 ((insT_perm x l).mem_iff.1 hz) with rfl | hz
      · exact hy
      · exact h.1 z hz
    · rename_i hy
      have hxy : ahead x y = true := by
        cases hq : ahead x y with
        | true => rfl
        | false => exact absurd (ahead_tot hq (by simpa using hy)).1 (hn y (.head _))
      refine List.pairwise_cons.2 ⟨fun z hz => ?_, List.pairwise_cons.2 h⟩
      rcases List.mem_cons.1 hz with rfl | hz
      · exact hxy
      · exact ahead_trans hxy (h.1 z hz)
theorem srtT_sorted {l : List P11} (h : l.Pairwise (fun p q => nm p ≠ nm q)) : (srtT l).Pairwise (fun a b => ahead a b = true) := by
  induction l with
  | nil => simp [srtT]
  | cons x l ih =>
    rw [List.pairwise_cons] at h
    exact insT_sorted (ih h.2) (fun y hy => h.1 y ((srtT_perm l).mem_iff.1 hy))
/-- what is sorted is so in one way -/
theorem srtT_unique {l d : List P11} (h : l.Pairwise (fun p q => nm p ≠ nm q)) (hp : d.Perm l) (hs : d.Pairwise (fun a b => ahead b a = false)) : d = srtT l := by
  have hd : d.Pairwise (fun a b => ahead a b = true) := by
    have hn : d.Pairwise (fun p q => nm p ≠ nm q) := h.perm hp.symm (fun hn e => hn e.symm)
    refine (hs.and hn).imp ?_
    rintro a b ⟨h1, h2⟩
    cases hq : ahead a b with
    | true => rfl
    | false => exact absurd (ahead_tot hq h1).1 h2
  refine List.Perm.eq_of_pairwise (le := fun a b => ahead a b = true) (fun a b _ _ h1 h2 => ?_) hd (srtT_sorted h) (hp.trans (srtT_perm l).symm)
  rw [ahead_asym h1] at h2; cases h2
/-- those that stand behind one -/
def kidsT (s : List P11) (n : N3) : List P11 := s.filter fun p => decide (upN p = n)
theorem mem_kidsT {l : List P11} {n : N3} {p : P11} : p ∈ kidsT (srtT l) n ↔ p ∈ l ∧ upN p = n := by
  rw [kidsT, List.mem_filter, (srtT_perm l).mem_iff, decide_eq_true_iff]
/-- what hangs on one -/
def hangT (m : N3 → List P11) : Nat → P11 → List P11
  | 0, p => [p]
  | n + 1, p => p :: (m (nm p)).flatMap (hangT m n)
/-- nothing hangs deeper than so -/
def DeepT (m : N3 → List P11) : Nat → P11 → Prop
  | 0, p => m (nm p) = []
  | n + 1, p => ∀ c ∈ m (nm p), DeepT m n c
def ordT (l : List P11) : List P11 := (kidsT (srtT l) zN).flatMap (hangT (kidsT (srtT l)) l.length)
/-- the way down to a part -/
inductive PathT (l : List P11) : P11 → List P11 → Prop
  | root {p : P11} : p ∈ l → upN p = zN → PathT l p [p]
  | step {p q : P11} {π : List P11} : p ∈ l → nm q = upN p → upN p ≠ zN → PathT l q π → PathT l p (π ++ [p])
theorem PathT.mem {l : List P11} {p : P11} {π : List P11} (h : PathT l p π) : p ∈ l := by cases h <;> assumption
theorem PathT.ends {l : List P11} {p : P11} {π : List P11} (h : PathT l p π) : ∃ σ, π = σ ++ [p] := by
  cases h with
  | root => exact ⟨[], rfl⟩
  | step => exact ⟨_, rfl⟩
theorem PathT.one {l : List P11} (hw : WholeT l) {p : P11} {π : List P11} (h : PathT l p π) : ∀ {ρ}, PathT l p ρ → π = ρ := by
  induction h with
  | root h1 h2 =>
    intro ρ k
    cases k with
    | root => rfl
    | step _ _ k3 _ => exact absurd h2 k3
  | step h1 h2 h3 h4 ih =>
    intro ρ k
    cases k with
    | root _ k2 => exact absurd k2 h3
    | step _ k2 _ k4 =>
      have e := hw.inj k4.mem h4.mem (k2.trans h2.symm)
      subst e
      rw [ih k4]
theorem countP_lt {α : Type} {P Q : α → Bool} {l : List α} (h : ∀ x, P x = true → Q x = true) {y : α} (hy : y ∈ l) (hq : Q y = true) (hp : P y = false) : l.countP P < l.countP Q := by
  induction l with
  | nil => cases hy
  | cons x l ih =>
    have hle : l.countP P ≤ l.countP Q := List.countP_mono_left (fun x _ => h x)
    rw [List.countP_cons, List.countP_cons]
    rcases List.mem_cons.1 hy with rfl | hy
    · rw [hp, hq]; simp; omega
    · have h1 := ih hy
      by_cases hx : P x = true
      · rw [hx, h x hx]; omega
      · rw [if_neg hx]; split <;> omega
theorem PathT.all {l : List P11} (hw : WholeT l) : ∀ (n : Nat) (p : P11), p ∈ l → l.countP (fun q => older q p) ≤ n → ∃ π, PathT l p π := by
  intro n
  induction n with
  | zero =>
    intro p hp hn
    rcases hw.2.2.2 p hp with h | ⟨q, hq, h1, h2⟩
    · exact ⟨_, .root hp h⟩
    · have : 0 < l.countP (fun q => older q p) := List.countP_pos_iff.2 ⟨q, hq, h2⟩
      omega
  | succ n ih =>
    intro p hp hn
    by_cases h0 : upN p = zN
    · exact ⟨_, .root hp h0⟩
    rcases hw.2.2.2 p hp with h | ⟨q, hq, h1, h2⟩
    · exact absurd h h0
    · have : l.countP (fun r => older r q) < l.countP (fun r => older r p) := countP_lt (fun x hx => older_trans hx h2) hq h2 (by simpa using older_irr q)
      obtain ⟨π, hπ⟩ := ih q hq (by omega)
      exact ⟨_, .step hp h1 h0 hπ⟩
theorem WholeT.path {l : List P11} (hw : WholeT l) {p : P11} (hp : p ∈ l) : ∃ π, PathT l p π := PathT.all hw _ p hp (Nat.le_refl _)
theorem WholeT.up {l : List P11} (hw : WholeT l) {p q : P11} (hp : p ∈ l) (hq : q ∈ l) (h : nm q = upN p) : older q p = true := by
  rcases hw.2.2.2 p hp with h0 | ⟨r, hr, h1, h2⟩
  · exact absurd (h.trans h0) (formedT_ne (hw.1 q hq))
  · rw [hw.inj hq hr (h.trans h1.symm)]; exact h2
theorem PathT.rise {l : List P11} (hw : WholeT l) {p : P11} {π : List P11} (h : PathT l p π) : (∀ r ∈ π, r = p ∨ older r p = true) ∧ π.Pairwise (fun a b => older a b = true) ∧ ∀ r ∈ π, r ∈ l := by
  induction h with
  | root h1 h2 => exact ⟨by simp, by simp, by simpa using h1⟩
  | step h1 h2 h3 h4 ih =>
    have ho := hw.up h1 h4.mem h2
    refine ⟨?_, ?_, ?_⟩
    · intro r hr
      rcases List.mem_append.1 hr with hr | hr
      · rcases ih.1 r hr with rfl | h
        · exact .inr ho
        · exact .inr (older_trans h ho)
      · exact .inl (by simpa using hr)
    · refine List.pairwise_append.2 ⟨ih.2.1, by simp, ?_⟩
      intro r hr b hb
      obtain rfl : b = _ := by simpa using hb
      rcases ih.1 r hr with rfl | h
      · exact ho
      · exact older_trans h ho
    · intro r hr
      rcases List.mem_append.1 hr with hr | hr
      · exact ih.2.2 r hr
      · rw [show r = _ by simpa using hr]; exact h1
theorem PathT.short {l : List P11} (hw : WholeT l) {p : P11} {π : List P11} (h : PathT l p π) : π.length ≤ l.length := by
  have hr := h.rise hw
  refine List.Nodup.length_le_of_subset (hr.2.1.imp ?_) hr.2.2
  intro a b hab e
  subst e
  exact older_irr _ hab
theorem append_one {α : Type} {a b : List α} {x y : α} (h : a ++ [x] = b ++ [y]) : a = b ∧ x = y := by
  have := List.append_inj' h rfl
  exact ⟨this.1, by simpa using this.2⟩
theorem PathT.cut {l : List P11} {r : P11} {π : List P11} (h : PathT l r π) : ∀ (ρ : List P11) (c : P11) (τ : List P11), π = ρ ++ [c] ++ τ → PathT l c (ρ ++ [c]) := by
  induction h with
  | @root p h1 h2 =>
    intro ρ c τ e
    cases ρ with
    | nil =>
      simp only [List.nil_append, List.cons_append, List.cons.injEq] at e
      obtain ⟨rfl, _⟩ := e
      exact .root h1 h2
    | cons x ρ => simp at e
  | @step p q π h1 h2 h3 h4 ih =>
    intro ρ c τ e
    rcases List.eq_nil_or_concat τ with rfl | ⟨τ', y, rfl⟩
    · rw [List.append_nil] at e
      obtain ⟨e1, e2⟩ := append_one e
      subst e1 e2
      exact .step h1 h2 h3 h4
    · rw [List.concat_eq_append, ← List.append_assoc] at e
      obtain ⟨e1, e2⟩ := append_one e
      exact ih ρ c τ' e1
theorem PathT.back {l : List P11} {c : P11} {π : List P11} (h : PathT l c (π ++ [c])) : (π = [] ∧ upN c = zN) ∨ ∃ q, nm q = upN c ∧ upN c ≠ zN ∧ PathT l q π := by
  generalize hx : π ++ [c] = x at h
  cases h with
  | root h1 h2 =>
    have := append_one (show π ++ [c] = [] ++ [c] from hx)
    exact .inl ⟨this.1, h2⟩
  | step h1 h2 h3 h4 =>
    obtain ⟨e1, _⟩ := append_one hx
    subst e1
    exact .inr ⟨_, h2, h3, h4⟩
/-- of two ways down the one that stands ahead -/
def lexT : List P11 → List P11 → Bool
  | [], [] => false
  | [], _ :: _ => true
  | _ :: _, [] => false
  | x :: xs, y :: ys => if nm x = nm y then lexT xs ys else ahead x y
theorem lexT_asym : ∀ (a b : List P11), lexT a b = true → lexT b a = false
  | [], [], h => by simp [lexT] at h
  | [], _ :: _, _ => rfl
  | _ :: _, [], h => by simp [lexT] at h
  | x :: xs, y :: ys, h => by
    rw [lexT] at h ⊢
    by_cases e : nm x = nm y
    · rw [if_pos e] at h; rw [if_pos e.symm]; exact lexT_asym xs ys h
    · rw [if_neg e] at h; rw [if_neg (fun k => e k.symm)]; exact ahead_asym h
theorem lexT_pre : ∀ (a : List P11) (x : P11) (b : List P11), lexT a (a ++ x :: b) = true
  | [], _, _ => rfl
  | y :: a, x, b => by rw [List.cons_append, lexT, if_pos rfl]; exact lexT_pre a x b
theorem lexT_at : ∀ (a : List P11) (x y : P11) (b c : List P11), nm x ≠ nm y → lexT (a ++ x :: b) (a ++ y :: c) = ahead x y
  | [], x, y, b, c, h => by rw [List.nil_append, List.nil_append, lexT, if_neg h]
  | z :: a, x, y, b, c, h => by rw [List.cons_append, List.cons_append, lexT, if_pos rfl]; exact lexT_at a x y b c h
/-- of two parts the one that stands ahead -/
def BefT (l : List P11) (p q : P11) : Prop := ∃ π ρ, PathT l p π ∧ PathT l q ρ ∧ lexT π ρ = true
theorem BefT.asym {l : List P11} (hw : WholeT l) {p q : P11} (h : BefT l p q) (k : BefT l q p) : False := by
  obtain ⟨π, ρ, h1, h2, h3⟩ := h
  obtain ⟨ρ', π', k1, k2, k3⟩ := k
  rw [h1.one hw k2] at h3
  rw [h2.one hw k1] at h3
  rw [lexT_asym _ _ h3] at k3; cases k3
theorem BefT.ne {l : List P11} (hw : WholeT l) {p q : P11} (h : BefT l p q) : p ≠ q := fun e => by subst e; exact h.asym hw h
theorem hang_path {l : List P11} (hw : WholeT l) : ∀ (n : Nat) (p : P11) (π : List P11), PathT l p π → ∀ r ∈ hangT (kidsT (srtT l)) n p, ∃ σ, PathT l r (π ++ σ) := by
  intro n
  induction n with
  | zero =>
    intro p π hp r hr
    rw [show r = p by simpa [hangT] using hr]
    exact ⟨[], by simpa using hp⟩
  | succ n ih =>
    intro p π hp r hr
    rw [hangT] at hr
    rcases List.mem_cons.1 hr with rfl | hr
    · exact ⟨[], by simpa using hp⟩
    · obtain ⟨c, hc, hr⟩ := List.mem_flatMap.1 hr
      obtain ⟨h1, h2⟩ := mem_kidsT.1 hc
      have hc2 : PathT l c (π ++ [c]) := .step h1 h2.symm (by rw [h2]; exact formedT_ne (hw.1 _ hp.mem)) hp
      obtain ⟨σ, hσ⟩ := ih c _ hc2 r hr
      exact ⟨c :: σ, by simpa using hσ⟩
theorem kids_sorted {l : List P11} (hw : WholeT l) (n : N3) : (kidsT (srtT l) n).Pairwise (fun a b => ahead a b = true ∧ nm a ≠ nm b) := by
  refine ((srtT_sorted hw.2.1).and (hw.2.1.perm (srtT_perm l).symm (fun hn e => hn e.symm))).sublist List.filter_sublist
theorem flat_sorted {l : List P11} (hw : WholeT l) (n : Nat) (N : N3) (π : List P11) (hN : ∀ c ∈ kidsT (srtT l) N, PathT l c (π ++ [c]))
    (ih : ∀ c ∈ kidsT (srtT l) N, (hangT (kidsT (srtT l)) n c).Pairwise (BefT l)) : ((kidsT (srtT l) N).flatMap (hangT (kidsT (srtT l)) n)).Pairwise (BefT l) := by
  refine List.pairwise_flatMap.2 ⟨ih, ?_⟩
  refine List.Pairwise.imp_of_mem ?_ (kids_sorted hw N)
  rintro a b ha hb ⟨hab, hne⟩ x hx y hy
  obtain ⟨σ, hσ⟩ := hang_path hw n a _ (hN a ha) x hx
  obtain ⟨τ, hτ⟩ := hang_path hw n b _ (hN b hb) y hy
  refine ⟨_, _, hσ, hτ, ?_⟩
  rw [List.append_assoc, List.append_assoc]
  show lexT (π ++ a :: σ) (π ++ b :: τ) = true
  rw [lexT_at _ _ _ _ _ hne]; exact hab
theorem hang_sorted {l : List P11} (hw : WholeT l) : ∀ (n : Nat) (p : P11) (π : List P11), PathT l p π → (hangT (kidsT (srtT l)) n p).Pairwise (BefT l) := by
  intro n
  induction n with
  | zero => intro p π hp; simp [hangT]
  | succ n ih =>
    intro p π hp
    have hkids : ∀ c ∈ kidsT (srtT l) (nm p), PathT l c (π ++ [c]) := fun c hc => by
      obtain ⟨h1, h2⟩ := mem_kidsT.1 hc
      exact .step h1 h2.symm (by rw [h2]; exact formedT_ne (hw.1 _ hp.mem)) hp
    rw [hangT]
    refine List.pairwise_cons.2 ⟨fun r hr => ?_, flat_sorted hw n _ π hkids (fun c hc => ih c _ (hkids c hc))⟩
    obtain ⟨c, hc, hr⟩ := List.mem_flatMap.1 hr
    obtain ⟨σ, hσ⟩ := hang_path hw n c _ (hkids c hc) r hr
    refine ⟨_, _, hp, hσ, ?_⟩
    rw [List.append_assoc]
    exact lexT_pre _ _ _
theorem mem_hang {l : List P11} : ∀ (n : Nat) (p : P11) (π σ : List P11) (r : P11), PathT l p π → PathT l r (π ++ σ) → σ.length ≤ n → r ∈ hangT (kidsT (srtT l)) n p := by
  intro n
  induction n with
  | zero =>
    intro p π σ r hp hr hn
    obtain rfl := List.eq_nil_of_length_eq_zero (Nat.le_zero.1 hn)
    rw [List.append_nil] at hr
    obtain ⟨a, e1⟩ := hp.ends
    obtain ⟨b, e2⟩ := hr.ends
    rw [(append_one (e1.symm.trans e2)).2]
    simp [hangT]
  | succ n ih =>
    intro p π σ r hp hr hn
    rw [hangT]
    cases σ with
    | nil =>
      rw [List.append_nil] at hr
      obtain ⟨a, e1⟩ := hp.ends
      obtain ⟨b, e2⟩ := hr.ends
      rw [(append_one (e1.symm.trans e2)).2]
      exact List.mem_cons_self
    | cons c σ =>
      have hc := hr.cut π c σ (by simp)
      refine List.mem_cons_of_mem _ (List.mem_flatMap.2 ⟨c, ?_, ih c (π ++ [c]) σ r hc (by simpa using hr) (by simpa using hn)⟩)
      rcases hc.back with ⟨e, _⟩ | ⟨q, h1, h2, h3⟩
      · subst e
        obtain ⟨a, e1⟩ := hp.ends
        simp at e1
      · obtain ⟨a, e1⟩ := hp.ends
        obtain ⟨b, e2⟩ := h3.ends
        rw [(append_one (e1.symm.trans e2)).2]
        exact mem_kidsT.2 ⟨hc.mem, h1.symm⟩
theorem root_kids {l : List P11} {c : P11} (hc : c ∈ kidsT (srtT l) zN) : PathT l c ([] ++ [c]) := by
  obtain ⟨h1, h2⟩ := mem_kidsT.1 hc
  exact .root h1 h2
theorem ordT_sorted {l : List P11} (hw : WholeT l) : (ordT l).Pairwise (BefT l) :=
  flat_sorted hw _ zN [] (fun _ hc => root_kids hc) (fun c hc => hang_sorted hw _ c _ (root_kids hc))
theorem ordT_mem {l : List P11} (hw : WholeT l) (r : P11) : r ∈ ordT l ↔ r ∈ l := by
  constructor
  · intro hr
    obtain ⟨c, hc, hr⟩ := List.mem_flatMap.1 hr
    obtain ⟨σ, hσ⟩ := hang_path hw _ c _ (root_kids hc) r hr
    exact hσ.mem
  · intro hr
    obtain ⟨π, hπ⟩ := hw.path hr
    have hs := hπ.short hw
    cases π with
    | nil => obtain ⟨a, e⟩ := hπ.ends; simp at e
    | cons c σ =>
      have hc := hπ.cut [] c σ (by simp)
      refine List.mem_flatMap.2 ⟨c, ?_, mem_hang _ c _ σ r hc (by simpa using hπ) (by simp at hs; omega)⟩
      rcases hc.back with ⟨_, h⟩ | ⟨q, _, _, h3⟩
      · exact mem_kidsT.2 ⟨hc.mem, h⟩
      · obtain ⟨a, e⟩ := h3.ends; simp at e
theorem ordT_perm {l : List P11} (hw : WholeT l) : (ordT l).Perm l :=
  (List.perm_ext_iff_of_nodup ((ordT_sorted hw).imp (fun h => h.ne hw)) hw.nodup).2 (ordT_mem hw)
theorem ordT_len {l : List P11} (hw : WholeT l) : (ordT l).length = l.length := (ordT_perm hw).length_eq
theorem deep_of {l : List P11} (hw : WholeT l) : ∀ (n : Nat) (p : P11) (π : List P11), PathT l p π → l.length ≤ π.length + n → DeepT (kidsT (srtT l)) n p := by
  intro n
  induction n with
  | zero =>
    intro p π hp hn
    rw [DeepT]
    refine List.eq_nil_iff_forall_not_mem.2 fun c hc => ?_
    obtain ⟨h1, h2⟩ := mem_kidsT.1 hc
    have : PathT l c (π ++ [c]) := .step h1 h2.symm (by rw [h2]; exact formedT_ne (hw.1 _ hp.mem)) hp
    have := this.short hw
    rw [List.length_append] at this
    simp at this
    omega
  | succ n ih =>
    intro p π hp hn
    rw [DeepT]
    intro c hc
    obtain ⟨h1, h2⟩ := mem_kidsT.1 hc
    refine ih c (π ++ [c]) (.step h1 h2.symm (by rw [h2]; exact formedT_ne (hw.1 _ hp.mem)) hp) ?_
    rw [List.length_append]; simp; omega
theorem deep_root {l : List P11} (hw : WholeT l) {c : P11} (hc : c ∈ kidsT (srtT l) zN) : DeepT (kidsT (srtT l)) l.length c :=
  deep_of hw _ c _ (root_kids hc) (by omega)
end Go.Proofs.YtfljhnalmiibeaaGreat

namespace Go.Proofs.YtfljhnalmiibeaaGreat
set_option maxRecDepth 100000
open Go.RowKit
theorem heap_at {w : World} {o : Obj} {g : Nat} (h : w.heap.size = g) : (w.alloc o).heap[g]? = some o := by subst h; exact heap_alloc_new _ _
theorem heap_past {w : World} {o : Obj} {g : Nat} {x : Option Obj} (h : g < w.heap.size) (hx : w.heap[g]? = x) : (w.alloc o).heap[g]? = x := by rw [Below.heap_alloc _ _ _ h]; exact hx
theorem heap_drew {w : World} {g : Nat} {x : Option Obj} (hx : w.heap[g]? = x) : w.drew.heap[g]? = x := hx
theorem isNaNC_any (x : Int) (w : World) : Calls Tryz.prog 108 #[.int .i64 x] w fun e w' => e = .returned (.bool false) ∧ w' = w := by
  go_enter Tryz.func108, Tryz.ntmps108
  go_wp2
  go_ret
  exact ⟨by simp, rfl⟩
theorem cmpCompareC_any (x y : Int) (w : World) : Calls Tryz.prog 73 #[.int .i64 x, .int .i64 y] w fun e w' => e = .returned (.int .i64 (cmpI x y)) ∧ w' = w := by
  have P := Lib.hid (fun z : Int => isNaNC_any z)
  rcases Int.lt_trichotomy x y with h | h | h
  · have hr := Lib.hid (show cmpI x y = -1 by simp [cmpI, h])
    go_enter Tryz.func73, Tryz.ntmps73
    go_wp2_with (go_at_call 108; refine (P.out _ _).mono ?_; rintro e w' ⟨rfl, rfl⟩)
    go_ret
    exact ⟨by rw [hr.out]; rfl, rfl⟩
  · subst h
    have hr := Lib.hid (show cmpI x x = 0 by simp [cmpI])
    go_enter Tryz.func73, Tryz.ntmps73
    go_wp2_with (go_at_call 108; refine (P.out _ _).mono ?_; rintro e w' ⟨rfl, rfl⟩)
    go_ret
    exact ⟨by rw [hr.out]; rfl, rfl⟩
  · have h2 : ¬ x < y := by omega
    have hr := Lib.hid (show cmpI x y = 1 by simp [cmpI, h2, h])
    go_enter Tryz.func73, Tryz.ntmps73
    go_wp2_with (go_at_call 108; refine (P.out _ _).mono ?_; rintro e w' ⟨rfl, rfl⟩)
    go_ret
    exact ⟨by rw [hr.out]; rfl, rfl⟩
set_option maxHeartbeats 800000 in
theorem numbers_any (t d q : Int) (w : World) : Calls Tryz.prog 202 #[.agg #[.int .i64 t, .int .i64 d, .int .i64 q]] w fun e w' => e = .returned (.agg #[.int .i64 t, .int .i64 d, .int .i64 q]) ∧ w' = (w.alloc (.cells #[.int .i64 t, .int .i64 d, .int .i64 q] 188)).alloc (.cells #[.int .i64 t, .int .i64 d, .int .i64 q] 49) := by
  go_enter Tryz.func202, Tryz.ntmps202
  go_wp2
  refine bodyPost_ret (v := .agg #[.int .i64 t, .int .i64 d, .int .i64 q]) (results_cell_row rfl _ _ (w.heap.size + 1) 49 _ (0, 0) _ rfl (heap_at (by simp)) Tryz.underlying49 rfl (by kernel_rfl)) rfl ⟨rfl, rfl⟩
theorem run_equalIn_arr3 (a b c x y z : Int) (W : World) :
    (Op.equalIn 10000 49 (.agg #[.int .i64 a, .int .i64 b, .int .i64 c]) (.agg #[.int .i64 x, .int .i64 y, .int .i64 z])).run Tryz.prog W = .ok (a == x && b == y && c == z) W := by
  have hc : Tryz.prog.cellsOf 3 = 1 := by kernel_rfl
  obtain ⟨i, hi⟩ : ∃ i, Tryz.prog.info? 3 = some i := by
    cases h : Tryz.prog.info? 3 with
    | some i => exact ⟨i, rfl⟩
    | none => exact absurd h (by have : (Tryz.prog.info? 3).isSome = true := by kernel_rfl
                                 intro e; rw [e] at this; cases this)
  have p0 : ∀ a b c : Value, (part 3 #[a, b, c] 0).run Tryz.prog W = .ok a W := fun _ _ _ => rfl
  have p1 : ∀ a b c : Value, (part 3 #[a, b, c] 1).run Tryz.prog W = .ok b W := fun _ _ _ => rfl
  have p2 : ∀ a b c : Value, (part 3 #[a, b, c] 2).run Tryz.prog W = .ok c W := fun _ _ _ => rfl
  have q0 : ∀ a b : Int, (Op.equalIn 9999 3 (.int .i64 a) (.int .i64 b)).run Tryz.prog W = .ok (a == b) W := fun a b => run_equalIn_int W 9998 _ _ _ a b Tryz.underlying3
  rw [show (10000 : Nat) = 9999 + 1 from rfl, run_equalIn_array (w := W) 9999 _ _ Tryz.underlying49 hi, hc, show List.range 3 = [0, 1, 2] from rfl]
  generalize Tryz.prog = P at p0 p1 p2 q0 ⊢
  simp only [Op.eqItems, Sem.run_bind, Nat.mul_one, p0, q0, Result.andThen_ok]
  cases a == x <;> cases h1 : (b == y) <;> cases h2 : (c == z) <;> simp [q0, p1, p2, h1, h2]
end Go.Proofs.YtfljhnalmiibeaaGreat

