/- Layer 7, in plain mathematics: two copies that got a write each, and what they join to. -/
import Derived.Test.YtieaobeidlhefaaMbOpen
import Derived.Test.YtieaobeidlhefaaVecSet
namespace Go.Proofs.Ytieaobeidlhefaa
set_option maxRecDepth 100000
open Srt

theorem Rise.ne {l : List P11} (h : Rise l) : l.Pairwise fun p q => p.d ≠ q.d :=
  List.Pairwise.imp (fun hpq e => by rw [e, aboveD_irr] at hpq; cases hpq) h
theorem Rise.uniq : ∀ {l : List P11}, Rise l → ∀ {p q : P11}, p ∈ l → q ∈ l → p.d = q.d → p = q
  | [], _, _, _, hp, _, _ => by cases hp
  | x :: l, h, p, q, hp, hq, e => by
    have h2 := List.pairwise_cons.1 (Rise.ne h)
    rcases List.mem_cons.1 hp with e1 | hp2 <;> rcases List.mem_cons.1 hq with e2 | hq2
    · rw [e1, e2]
    · rw [e1] at e; exact absurd e (h2.1 q hq2)
    · rw [e2] at e; exact absurd e.symm (h2.1 p hp2)
    · exact Rise.uniq (List.pairwise_cons.1 h).2 hp2 hq2 e
theorem joinL_mem (a b : List P11) (ka kb : List Int) (x : P11) : x ∈ joinL a b ka kb ↔ (x ∈ a ∧ joinA b kb x = true) ∨ (x ∈ b ∧ joinB a ka x = true) := by
  rw [joinL, (isort_perm _).mem_iff, List.mem_append, List.mem_filter, List.mem_filter]
theorem joinL_rise {a b : List P11} (ha : Rise a) (hb : Rise b) (ka kb : List Int) : Rise (joinL a b ka kb) := by
  have hne : (a.filter (joinA b kb) ++ b.filter (joinB a ka)).Pairwise fun p q => p.d ≠ q.d := by
    refine List.pairwise_append.2 ⟨Rise.ne (ha.filter _), Rise.ne (hb.filter _), fun p hp q hq e => ?_⟩
    have h1 := (List.mem_filter.1 hp).1
    have h2 := (List.mem_filter.1 hq).2
    have h3 : dotIn a q.d = true := (dotIn_iff _ _).2 ⟨p, h1, e⟩
    simp [joinB, h3] at h2
  have hne2 : (joinL a b ka kb).Pairwise fun p q => p.d ≠ q.d := (List.Perm.pairwise_iff (R := fun p q : P11 => p.d ≠ q.d) (fun h => h.symm) (isort_perm (lt := ltP) _)).2 hne
  have hs : (joinL a b ka kb).Pairwise fun p q => ltP q p = false := isort_sorted weakP _
  exact List.Pairwise.imp₂ (fun p q h1 h2 => by
    rcases above_or h1 with h | h
    · rw [ltP, h] at h2; cases h2
    · exact h) hne2 hs

theorem knows_iff {k : List Int} {q : D2} : knowsV k q = true ↔ 1 ≤ q.s ∧ q.s ≤ ofV k q.d := by simp [knowsV, hasV]
theorem knows_no {k : List Int} {q : D2} : knowsV k q = false ↔ ¬ (1 ≤ q.s ∧ q.s ≤ ofV k q.d) := by rw [← knows_iff]; simp
theorem upto_ofV {a b : List Int} (h : uptoV a b = true) (d : Int) : ofV a d ≤ ofV b d := by
  unfold ofV
  split
  · exact Int.le_refl _
  · exact (uptoV_iff a b).1 h _
theorem upto_knows {a b : List Int} (h : uptoV a b = true) {q : D2} (hq : knowsV b q = false) : knowsV a q = false := by
  rw [knows_no] at hq ⊢
  have := upto_ofV h q.d
  omega

section
variable {l : List P11} {k0 k1 k2 : List Int} {z0 z1 : V3}
theorem meet_new1 (k0 : List Int) (c s : Int) (hs : s = ofV k0 c + 1) : knowsV k0 ⟨c, s⟩ = false := by
  rw [knows_no]; subst hs; simp only; omega
theorem meet_set (k0 : List Int) (c s : Int) (hs : s = ofV k0 c + 1) {q : D2} (hq : knowsV k0 q = true) : knowsV (setV k0 c s) q = true := by
  rw [knows_iff] at hq ⊢
  rw [ofV_set]
  refine ⟨hq.1, ?_⟩
  split
  · rename_i h; rw [h.1] at hq; omega
  · exact hq.2
theorem meet_set_other (k0 : List Int) (c s e : Int) (t : Int) (h : e ≠ c) (ht : t = ofV k0 e + 1) : knowsV (setV k0 c s) ⟨e, t⟩ = false := by
  rw [knows_no, ofV_set, if_neg (fun h2 => h h2.1)]
  subst ht; simp only; omega

theorem dot_has {a : List P11} {p : P11} (h : p ∈ a) : dotIn a p.d = true := (dotIn_iff _ _).2 ⟨p, h, rfl⟩
theorem dot_no {a : List P11} {d : D2} (h : ∀ p ∈ a, p.d ≠ d) : dotIn a d = false := by
  cases h2 : dotIn a d with
  | false => rfl
  | true => obtain ⟨p, hp, e⟩ := (dotIn_iff _ _).1 h2; exact absurd e (h p hp)

theorem in_write (hk : ∀ p ∈ l, knowsV k0 p.d = true) {d : D2} (hd : knowsV k0 d = false) (v : V3) (k : List Int) (p : P11) : p ∈ writeL l v d k ↔ (p ∈ l ∧ knowsV k p.d = false) ∨ p = part0 v d := by
  rw [write_mem]
  constructor
  · rintro (⟨h1, h2⟩ | h)
    · exact .inl ⟨h1, (kept_iff.1 h2).2⟩
    · exact .inr h
  · rintro (⟨h1, h2⟩ | h)
    · refine .inl ⟨h1, kept_iff.2 ⟨fun e => ?_, h2⟩⟩
      have := hk p h1
      rw [e, hd] at this; cases this
    · exact .inr h

/-- one copy got one write, the other one another: joined, they are what one copy has that got both -/
theorem meet_join (hr : Rise l) (hk : ∀ p ∈ l, knowsV k0 p.d = true) (hu2 : uptoV k2 k0 = true) {d e : D2} (hde : d ≠ e) (hd : knowsV k0 d = false) (he : knowsV k0 e = false)
    {x y : List Int} (hx : ∀ q : D2, knowsV k0 q = true → knowsV x q = true) (hy : ∀ q : D2, knowsV k0 q = true → knowsV y q = true) (hxe : knowsV x e = false) (hyd : knowsV y d = false) :
    joinL (writeL l z0 d k1) (writeL l z1 e k2) x y = writeL (writeL l z0 d k1) z1 e k2 ∧ joinL (writeL l z1 e k2) (writeL l z0 d k1) y x = writeL (writeL l z0 d k1) z1 e k2 := by
  have iA := in_write (l := l) hk hd z0 k1
  have iB := in_write (l := l) hk he z1 k2
  have rA := write_rise hr z0 d k1
  have rB := write_rise hr z1 e k2
  have iC : ∀ p, p ∈ writeL (writeL l z0 d k1) z1 e k2 ↔ ((p ∈ l ∧ knowsV k1 p.d = false) ∧ knowsV k2 p.d = false) ∨ p = part0 z0 d ∨ p = part0 z1 e := by
    intro p
    rw [write_mem, iA]
    constructor
    · rintro (⟨h1 | h1, h2⟩ | h)
      · exact .inl ⟨h1, (kept_iff.1 h2).2⟩
      · exact .inr (.inl h1)
      · exact .inr (.inr h)
    · rintro (⟨h1, h2⟩ | h | h)
      · refine .inl ⟨.inl h1, kept_iff.2 ⟨fun e2 => ?_, h2⟩⟩
        have := hk p h1.1
        rw [e2, he] at this; cases this
      · refine .inl ⟨.inr h, kept_iff.2 ?_⟩
        subst h
        exact ⟨hde, upto_knows hu2 hd⟩
      · exact .inr h
  -- what the other one has
  have dB : ∀ p ∈ l, knowsV k2 p.d = true → dotIn (writeL l z1 e k2) p.d = false := fun p hp h2 => dot_no fun q hq e2 => by
    rcases (iB q).1 hq with ⟨h3, h4⟩ | h3
    · rw [e2, h2] at h4; cases h4
    · subst h3
      have := hk p hp
      rw [← e2] at this
      have h5 : knowsV k0 e = true := this
      rw [he] at h5; cases h5
  have dA : ∀ p ∈ l, knowsV k1 p.d = true → dotIn (writeL l z0 d k1) p.d = false := fun p hp h2 => dot_no fun q hq e2 => by
    rcases (iA q).1 hq with ⟨h3, h4⟩ | h3
    · rw [e2, h2] at h4; cases h4
    · subst h3
      have := hk p hp
      rw [← e2] at this
      have h5 : knowsV k0 d = true := this
      rw [hd] at h5; cases h5
  have eA : dotIn (writeL l z0 d k1) e = false := dot_no fun q hq e2 => by
    rcases (iA q).1 hq with ⟨h3, _⟩ | h3
    · have := hk q h3
      rw [e2, he] at this; cases this
    · subst h3; exact hde e2
  have eB : dotIn (writeL l z1 e k2) d = false := dot_no fun q hq e2 => by
    rcases (iB q).1 hq with ⟨h3, _⟩ | h3
    · have := hk q h3
      rw [e2, hd] at this; cases this
    · subst h3; exact hde e2.symm
  constructor
  · refine Rise.eq (joinL_rise rA rB x y) (write_rise rA _ _ _) fun p => ?_
    rw [joinL_mem, iC]
    constructor
    · rintro (⟨h1, h2⟩ | ⟨h1, h2⟩)
      · rcases (iA p).1 h1 with h3 | h3
        · cases h4 : knowsV k2 p.d with
          | false => exact .inl ⟨h3, rfl⟩
          | true =>
            rw [joinA, dB p h3.1 h4, hy _ (hk p h3.1)] at h2; cases h2
        · exact .inr (.inl h3)
      · rcases (iB p).1 h1 with h3 | h3
        · have h5 : knowsV x p.d = true := hx _ (hk p h3.1)
          rw [joinB, h5] at h2; simp at h2
        · exact .inr (.inr h3)
    · rintro (⟨h1, h2⟩ | h | h)
      · refine .inl ⟨(iA p).2 (.inl h1), ?_⟩
        rw [joinA, dot_has ((iB p).2 (.inl ⟨h1.1, h2⟩))]; rfl
      · refine .inl ⟨(iA p).2 (.inr h), ?_⟩
        subst h
        rw [joinA, show knowsV y (part0 z0 d).d = false from hyd]; simp
      · refine .inr ⟨(iB p).2 (.inr h), ?_⟩
        subst h
        rw [joinB, show dotIn (writeL l z0 d k1) (part0 z1 e).d = false from eA, show knowsV x (part0 z1 e).d = false from hxe]; rfl
  · refine Rise.eq (joinL_rise rB rA y x) (write_rise rA _ _ _) fun p => ?_
    rw [joinL_mem, iC]
    constructor
    · rintro (⟨h1, h2⟩ | ⟨h1, h2⟩)
      · rcases (iB p).1 h1 with h3 | h3
        · cases h4 : knowsV k1 p.d with
          | false => exact .inl ⟨⟨h3.1, rfl⟩, h3.2⟩
          | true =>
            rw [joinA, dA p h3.1 h4, hx _ (hk p h3.1)] at h2; cases h2
        · exact .inr (.inr h3)
      · rcases (iA p).1 h1 with h3 | h3
        · have h5 : knowsV y p.d = true := hy _ (hk p h3.1)
          rw [joinB, h5] at h2; simp at h2
        · exact .inr (.inl h3)
    · rintro (⟨h1, h2⟩ | h | h)
      · refine .inl ⟨(iB p).2 (.inl ⟨h1.1, h2⟩), ?_⟩
        rw [joinA, dot_has ((iA p).2 (.inl h1))]; rfl
      · refine .inr ⟨(iA p).2 (.inr h), ?_⟩
        subst h
        rw [joinB, show dotIn (writeL l z1 e k2) (part0 z0 d).d = false from eB, show knowsV y (part0 z0 d).d = false from hyd]; rfl
      · refine .inl ⟨(iB p).2 (.inr h), ?_⟩
        subst h
        rw [joinA, show knowsV x (part0 z1 e).d = false from hxe]; simp
/-- a copy joined with itself is itself -/
theorem meet_self {a : List P11} (h : Rise a) (x : List Int) : joinL a a x x = a :=
  Rise.eq (joinL_rise h h x x) h fun p => by
    rw [joinL_mem]
    constructor
    · rintro (⟨h1, _⟩ | ⟨h1, _⟩) <;> exact h1
    · intro h1
      exact .inl ⟨h1, by rw [joinA, dot_has h1]; rfl⟩
/-- a copy joined with one that got a write behind it is that one -/
theorem meet_behind (hr : Rise l) (hk : ∀ p ∈ l, knowsV k0 p.d = true) {d : D2} (hd : knowsV k0 d = false) {x : List Int} (hx : ∀ q : D2, knowsV k0 q = true → knowsV x q = true) :
    joinL l (writeL l z0 d k1) k0 x = writeL l z0 d k1 := by
  have iA := in_write (l := l) hk hd z0 k1
  have rA := write_rise hr z0 d k1
  refine Rise.eq (joinL_rise hr rA k0 x) rA fun p => ?_
  rw [joinL_mem, iA]
  constructor
  · rintro (⟨h1, h2⟩ | ⟨h1, h2⟩)
    · cases h4 : knowsV k1 p.d with
      | false => exact .inl ⟨h1, rfl⟩
      | true =>
        have h5 : dotIn (writeL l z0 d k1) p.d = false := dot_no fun q hq e2 => by
          rcases (iA q).1 hq with ⟨_, h6⟩ | h6
          · rw [e2, h4] at h6; cases h6
          · subst h6
            have := hk p h1
            rw [← e2] at this
            have h7 : knowsV k0 d = true := this
            rw [hd] at h7; cases h7
        rw [joinA, h5, hx _ (hk p h1)] at h2; cases h2
    · exact h1
  · rintro (h | h)
    · refine .inl ⟨h.1, ?_⟩
      rw [joinA, dot_has ((iA p).2 (.inl h))]; rfl
    · refine .inr ⟨.inr h, ?_⟩
      subst h
      have h5 : dotIn l (part0 z0 d).d = false := dot_no fun q hq e2 => by
        have := hk q hq
        rw [e2] at this
        have h7 : knowsV k0 d = true := this
        rw [hd] at h7; cases h7
      rw [joinB, h5, show knowsV k0 (part0 z0 d).d = false from hd]; rfl
end
theorem right_ofV {a : List Int} (h : rightV a = true) (d : Int) : 0 ≤ ofV a d ∧ ofV a d ≤ 1048576 := by
  unfold ofV
  split
  · omega
  · unfold ofN
    simp only [rightV, Bool.and_eq_true, List.all_eq_true] at h
    cases e : a[d.toNat - 1]? with
    | none => simp [List.getD, e]
    | some x =>
      have := h.2 x (List.mem_of_getElem? e)
      simp only [okN, Bool.and_eq_true, decide_eq_true_eq] at this
      simpa [List.getD, e] using this
end Go.Proofs.Ytieaobeidlhefaa
