/- Layer 10, in plain mathematics: what Type makes: bytes behind a name; that it is whole. -/
import Derived.Test.YtlgpijdemfccaaaMbMay
namespace Go.Proofs.Ytlgpijdemfccaaa
set_option maxRecDepth 100000
open Go.RowKit

/-- a byte of a transaction -/
def byteP (b : Int) (d : D2) (t f : Int) (N : N3) : P11 := { v := ⟨1, b, ⟨#[]⟩⟩, d := d, i := f, t := t, a := N.d, j := N.i, g := false }
/-- bytes on end, behind a name -/
def newL : List Int → D2 → Int → Int → N3 → List P11
  | [], _, _, _, _ => []
  | b :: bs, d, t, f, N => byteP b d t f N :: newL bs d t (f + 1) ⟨d, f⟩
theorem newL_len : ∀ (bs : List Int) (d : D2) (t f : Int) (N : N3), (newL bs d t f N).length = bs.length
  | [], _, _, _, _ => rfl
  | b :: bs, d, t, f, N => by rw [newL, List.length_cons, newL_len bs, List.length_cons]
/-- behind what the byte number k of them stands -/
def behN (d : D2) (f : Int) (N : N3) (k : Nat) : N3 := if k = 0 then N else ⟨d, f + (k : Int) - 1⟩
theorem behN_succ (d : D2) (f : Int) (N : N3) (k : Nat) : behN d f N (k + 1) = ⟨d, f + (k : Int)⟩ := by
  rw [behN, if_neg (by omega)]
  congr 1
  omega
theorem newL_get : ∀ (bs : List Int) (d : D2) (t f : Int) (N : N3) (k : Nat) (b : Int), bs[k]? = some b → (newL bs d t f N)[k]? = some (byteP b d t (f + (k : Int)) (behN d f N k))
  | [], _, _, _, _, _, _, h => by simp at h
  | c :: bs, d, t, f, N, 0, b, h => by
    simp only [List.getElem?_cons_zero, Option.some.injEq] at h
    subst h
    simp [newL, behN]
  | c :: bs, d, t, f, N, k + 1, b, h => by
    simp only [List.getElem?_cons_succ] at h
    rw [newL, List.getElem?_cons_succ, newL_get bs d t (f + 1) ⟨d, f⟩ k b h]
    have e1 : f + 1 + (k : Int) = f + ((k + 1 : Nat) : Int) := by omega
    have e2 : behN d (f + 1) ⟨d, f⟩ k = behN d f N (k + 1) := by
      rw [behN_succ]
      unfold behN
      split
      · rename_i h; subst h; simp
      · congr 1; omega
    rw [e1, e2]
theorem newL_next {bs : List Int} {d : D2} {t f : Int} {N : N3} {k : Nat} {b : Int} (h : bs[k]? = some b) : (newL bs d t f N).take (k + 1) = (newL bs d t f N).take k ++ [byteP b d t (f + (k : Int)) (behN d f N k)] := take_succ (newL_get bs d t f N k b h)

/-- may bytes be put so -/
structure CanT (l : List P11) (who : S3) (f : Int) (N : N3) : Prop where
  whole : WholeT l
  time : ∀ p ∈ l, p.d = dotS who → p.t = who.t
  free : ∀ p ∈ l, p.d = dotS who → p.i < f
  lo : 0 ≤ f
  up : N = zN ∨ ∃ q ∈ l, nm q = N ∧ (stP q = who ∨ lessS (stP q) who = true)
theorem byte_st (b : Int) (who : S3) (f : Int) (N : N3) : stP (byteP b (dotS who) who.t f N) = who := rfl
theorem byte_nm (b : Int) (who : S3) (f : Int) (N : N3) : nm (byteP b (dotS who) who.t f N) = ⟨dotS who, f⟩ := rfl
theorem byte_up (b : Int) (d : D2) (t f : Int) (N : N3) : upN (byteP b d t f N) = N := rfl
theorem CanT.next {l : List P11} {who : S3} {f : Int} {N : N3} (h : CanT l who f N) (hs : rightSt who = true) {b : Int} (hb : 0 ≤ b ∧ b ≤ 255) (hf : f < 2000) : CanT (l ++ [byteP b (dotS who) who.t f N]) who (f + 1) ⟨dotS who, f⟩ := by
  have hr := (rightSt_iff who).1 hs
  have hmem : byteP b (dotS who) who.t f N ∈ l ++ [byteP b (dotS who) who.t f N] := by simp
  refine ⟨?_, ?_, ?_, by have := h.lo; omega, .inr ⟨_, hmem, byte_nm _ _ _ _, .inl (byte_st _ _ _ _)⟩⟩
  · rw [whole_good]
    refine ⟨good_next ⟨h.whole.1, h.whole.2.1, h.whole.2.2.1⟩ ?_ ?_ ?_, ?_⟩
    · rw [formedT_iff]
      exact ⟨rfl, hb, ⟨h.lo, hf⟩, hr.1, hr.2.1, hr.2.2⟩
    · intro p hp e
      rw [byte_nm] at e
      have e1 : p.d = dotS who := congrArg N3.d e
      have e2 : p.i = f := congrArg N3.i e
      have := h.free p hp e1
      omega
    · intro p hp e
      exact h.time p hp e
    · intro p hp
      rcases List.mem_append.1 hp with hp | hp
      · rcases h.whole.2.2.2 p hp with h1 | ⟨q, hq, h1⟩
        · exact .inl h1
        · exact .inr ⟨q, List.mem_append_left _ hq, h1⟩
      · rw [List.mem_singleton.1 hp]
        rcases h.up with h1 | ⟨q, hq, h1, h2⟩
        · exact .inl h1
        · refine .inr ⟨q, List.mem_append_left _ hq, h1, ?_⟩
          rw [older, byte_st]
          rcases h2 with h2 | h2
          · have h3 : q.d = dotS who := by rw [← h2]; rfl
            have := h.free q hq h3
            rw [decide_eq_true h2, decide_eq_true (show q.i < (byteP b (dotS who) who.t f N).i from this)]
            simp
          · rw [h2]; rfl
  · intro p hp e
    rcases List.mem_append.1 hp with hp | hp
    · exact h.time p hp e
    · rw [List.mem_singleton.1 hp]; rfl
  · intro p hp e
    rcases List.mem_append.1 hp with hp | hp
    · have := h.free p hp e; omega
    · rw [List.mem_singleton.1 hp]; show f < f + 1; omega
theorem CanT.all {who : S3} (hs : rightSt who = true) : ∀ (bs : List Int) (l : List P11) (f : Int) (N : N3), CanT l who f N → (∀ b ∈ bs, 0 ≤ b ∧ b ≤ 255) → f + bs.length ≤ 2000 → WholeT (l ++ newL bs (dotS who) who.t f N)
  | [], l, f, N, h, _, _ => by simpa [newL] using h.whole
  | b :: bs, l, f, N, h, hb, hf => by
    rw [List.length_cons] at hf
    have := CanT.all hs bs _ _ _ (h.next hs (hb b (.head _)) (by omega)) (fun c hc => hb c (.tail _ hc)) (by omega)
    rw [newL]
    simpa using this
theorem free_above (l : List P11) (d : D2) : ∀ p ∈ l, p.d = d → p.i < freeT l d := by
  suffices H : ∀ (l : List P11) (m : Int), m ≤ l.foldl (fun m p => if p.d = d then max m (p.i + 1) else m) m ∧ ∀ p ∈ l, p.d = d → p.i < l.foldl (fun m p => if p.d = d then max m (p.i + 1) else m) m from (H l 0).2
  intro l
  induction l with
  | nil => intro m; exact ⟨Int.le_refl _, by simp⟩
  | cons x l ih =>
    intro m
    rw [List.foldl_cons]
    by_cases hx : x.d = d
    · rw [if_pos hx]
      refine ⟨by have := (ih (max m (x.i + 1))).1; omega, fun p hp e => ?_⟩
      rcases List.mem_cons.1 hp with rfl | hp
      · have := (ih (max m (p.i + 1))).1; omega
      · exact (ih _).2 p hp e
    · rw [if_neg hx]
      refine ⟨(ih m).1, fun p hp e => ?_⟩
      rcases List.mem_cons.1 hp with rfl | hp
      · exact absurd e hx
      · exact (ih m).2 p hp e
theorem mayT_ok {k : Int} {v : V3} {l : List P11} {sl : Nat} {who : S3} {N : N3} : mayT k v l sl who N = 0 ↔ rightT10 k v l = 0 ∧ rightSt who = true ∧ clashT l who = false ∧ sl ≤ 200 ∧ l.length + sl ≤ 2000 ∧ freeT l (dotS who) + sl ≤ 2000 ∧ standT l who N = 0 := by
  unfold mayT
  by_cases h1 : rightT10 k v l = 0
  · rw [if_pos h1]
    by_cases h2 : rightSt who = true ∧ clashT l who = false
    · rw [if_pos h2]
      by_cases h3 : 200 < sl ∨ 2000 < l.length + sl ∨ 2000 < freeT l (dotS who) + sl
      · rw [if_pos h3]
        constructor
        · intro h; cases h
        · rintro ⟨_, _, _, h4, h5, h6, _⟩
          omega
      · rw [if_neg h3]
        constructor
        · intro h; exact ⟨h1, h2.1, h2.2, by omega, by omega, by omega, h⟩
        · rintro ⟨_, _, _, _, _, _, h⟩; exact h
    · rw [if_neg h2]
      constructor
      · intro h; cases h
      · rintro ⟨_, h3, h4, _⟩; exact absurd ⟨h3, h4⟩ h2
  · rw [if_neg h1]
    constructor
    · intro h; exact absurd h h1
    · rintro ⟨h, _⟩; exact absurd h h1
theorem standT_ok {l : List P11} {who : S3} {N : N3} (h : standT l who N = 0) : N = zN ∨ ∃ q ∈ l, nm q = N ∧ (stP q = who ∨ lessS (stP q) who = true) := by
  unfold standT at h
  split at h
  · rename_i h1; exact .inl h1
  · cases hf : l.find? (fun p => decide (nm p = N)) with
    | none => rw [hf] at h; cases h
    | some q =>
      rw [hf] at h
      simp only [] at h
      split at h
      · rename_i h2
        exact .inr ⟨q, List.mem_of_find?_eq_some hf, by simpa using List.find?_some hf, h2⟩
      · cases h
theorem clashT_no {l : List P11} {who : S3} (h : clashT l who = false) : ∀ p ∈ l, p.d = dotS who → p.t = who.t := by
  intro p hp e
  have := List.any_eq_false.1 h p hp
  simpa [e] using this
theorem can_of {k : Int} {v : V3} {l : List P11} {sl : Nat} {who : S3} {N : N3} (h : mayT k v l sl who N = 0) : CanT l who (freeT l (dotS who)) N := by
  obtain ⟨h1, h2, h3, h4, h5, h6, h7⟩ := mayT_ok.1 h
  obtain ⟨e1, e2, e3, e4, e5⟩ := rightT10_ok.1 h1
  exact ⟨e3, clashT_no h3, free_above l _, (free_le (fun p hp => ((formedT_iff p).1 (e3.1 p hp)).2.2.1)).1, standT_ok h7⟩
def addL (l : List P11) (bs : List Int) (who : S3) (N : N3) : List P11 := l ++ newL bs (dotS who) who.t (freeT l (dotS who)) N
theorem addL_whole {k : Int} {v : V3} {l : List P11} {s : ByteArray} {who : S3} {N : N3} (h : mayT k v l s.size who N = 0) : WholeT (addL l (sbytes s) who N) := by
  obtain ⟨h1, h2, h3, h4, h5, h6, h7⟩ := mayT_ok.1 h
  exact CanT.all h2 _ _ _ _ (can_of h) (sbytes_rng s) (by rw [sbytes_len]; exact h6)
theorem addL_len (l : List P11) (bs : List Int) (who : S3) (N : N3) : (addL l bs who N).length = l.length + bs.length := by
  rw [addL, List.length_append, newL_len]
end Go.Proofs.Ytlgpijdemfccaaa

