/- Layer 10: which parts are whole, step by step; the maps of places and times, in plain words. -/
import Derived.Test.YtlgpijdemfccaaaMbKids
namespace Go.Proofs.Ytlgpijdemfccaaa
set_option maxRecDepth 100000
open Go.RowKit

/-- whole, but for what parts stand behind -/
def Good1 (l : List P11) : Prop := (∀ p ∈ l, formedT p = true) ∧ l.Pairwise (fun p q => nm p ≠ nm q) ∧ ∀ p ∈ l, ∀ q ∈ l, p.d = q.d → p.t = q.t
def UpOk (L : List P11) (p : P11) : Prop := upN p = zN ∨ ∃ q ∈ L, nm q = upN p ∧ older q p = true
theorem whole_good (l : List P11) : WholeT l ↔ Good1 l ∧ ∀ p ∈ l, UpOk l p := by
  unfold WholeT Good1 UpOk
  constructor
  · rintro ⟨a, b, c, d⟩; exact ⟨⟨a, b, c⟩, d⟩
  · rintro ⟨⟨a, b, c⟩, d⟩; exact ⟨a, b, c, d⟩
theorem good_nil : Good1 [] := ⟨by simp, by simp, by simp⟩
theorem good_next {l : List P11} {x : P11} (h : Good1 l) (h1 : formedT x = true) (h2 : ∀ p ∈ l, nm p ≠ nm x) (h3 : ∀ p ∈ l, p.d = x.d → p.t = x.t) : Good1 (l ++ [x]) := by
  obtain ⟨a, b, c⟩ := h
  refine ⟨fun p hp => ?_, ?_, fun p hp q hq e => ?_⟩
  · rcases List.mem_append.1 hp with hp | hp
    · exact a p hp
    · rw [List.mem_singleton.1 hp]; exact h1
  · refine List.pairwise_append.2 ⟨b, by simp, fun p hp q hq => ?_⟩
    rw [List.mem_singleton.1 hq]; exact h2 p hp
  · rcases List.mem_append.1 hp with hp | hp <;> rcases List.mem_append.1 hq with hq | hq
    · exact c p hp q hq e
    · rw [List.mem_singleton.1 hq] at e ⊢; exact h3 p hp e
    · rw [List.mem_singleton.1 hp] at e ⊢; exact (h3 q hq e.symm).symm
    · rw [List.mem_singleton.1 hp, List.mem_singleton.1 hq]
theorem take_succ {L : List P11} {k : Nat} {x : P11} (hx : L[k]? = some x) : L.take (k + 1) = L.take k ++ [x] := by rw [List.take_add_one, hx]; rfl
theorem not_whole1 {L : List P11} {k : Nat} {x : P11} (hx : L[k]? = some x) (h : formedT x = false) : ¬ WholeT L := fun hw => by
  rw [hw.1 x (List.mem_of_getElem? hx)] at h; cases h
theorem not_whole2 {L : List P11} {k : Nat} {x p : P11} (hx : L[k]? = some x) (hp : p ∈ L.take k) (h : nm p = nm x) : ¬ WholeT L := fun hw => by
  obtain ⟨j, hj, e⟩ := List.mem_take_iff_getElem.1 hp
  obtain ⟨hk, e2⟩ := List.getElem?_eq_some_iff.1 hx
  have := List.pairwise_iff_getElem.1 hw.2.1 j k (by omega) hk (by omega)
  rw [e, e2] at this
  exact this h
theorem not_whole3 {L : List P11} {k : Nat} {x p : P11} (hx : L[k]? = some x) (hp : p ∈ L.take k) (h : p.d = x.d) (ht : p.t ≠ x.t) : ¬ WholeT L := fun hw =>
  ht (hw.2.2.1 p (List.mem_of_mem_take hp) x (List.mem_of_getElem? hx) h)
theorem not_whole4 {L : List P11} {k : Nat} {x : P11} (hx : L[k]? = some x) (h : ¬ UpOk L x) : ¬ WholeT L := fun hw => h (hw.2.2.2 x (List.mem_of_getElem? hx))

/-- the places of names -/
def placesE : Nat → List P11 → List (EnK N3)
  | _, [] => []
  | i, p :: l => ⟨nm p, .int .i64 (i : Int), i⟩ :: placesE (i + 1) l
theorem placesE_append : ∀ (i : Nat) (l : List P11) (x : P11), placesE i (l ++ [x]) = placesE i l ++ [⟨nm x, .int .i64 ((i + l.length : Nat) : Int), i + l.length⟩]
  | i, [], x => by simp [placesE]
  | i, p :: l, x => by
    rw [List.cons_append, placesE, placesE, placesE_append (i + 1) l x, List.cons_append, List.length_cons]
    rw [show i + 1 + l.length = i + (l.length + 1) by omega]
theorem placesE_born : ∀ (i : Nat) (l : List P11), ∀ e ∈ placesE i l, e.b < i + l.length
  | i, [], e, h => by cases h
  | i, p :: l, e, h => by
    rw [placesE] at h
    rw [List.length_cons]
    rcases List.mem_cons.1 h with rfl | h
    · show i < _; omega
    · have := placesE_born (i + 1) l e h; omega
theorem placesE_look : ∀ (i : Nat) (l : List P11) (n : N3), (lookE (placesE i l) n = none ∧ ∀ p ∈ l, nm p ≠ n) ∨ ∃ j p, lookE (placesE i l) n = some (.int .i64 ((i + j : Nat) : Int)) ∧ l[j]? = some p ∧ nm p = n
  | i, [], n => .inl ⟨rfl, by simp⟩
  | i, p :: l, n => by
    rw [placesE, lookE]
    by_cases h : n = nm p
    · rw [if_pos h]; exact .inr ⟨0, p, by simp, rfl, h.symm⟩
    · rw [if_neg h]
      rcases placesE_look (i + 1) l n with ⟨h1, h2⟩ | ⟨j, q, h1, h2, h3⟩
      · refine .inl ⟨h1, fun q hq => ?_⟩
        rcases List.mem_cons.1 hq with rfl | hq
        · exact fun e => h e.symm
        · exact h2 q hq
      · refine .inr ⟨j + 1, q, ?_, by simpa using h2, h3⟩
        rw [h1, show i + 1 + j = i + (j + 1) by omega]

/-- the times of dots -/
structure TimesE (T : List (EnK D2)) (l : List P11) (tm : D2 → Option Int) : Prop where
  look : ∀ d, lookE T d = (tm d).map (Value.int .i64)
  has : ∀ p ∈ l, tm p.d = some p.t
  from_ : ∀ d t, tm d = some t → ∃ p ∈ l, p.d = d ∧ p.t = t
theorem times_nil : TimesE [] [] (fun _ => none) := ⟨fun _ => rfl, by simp, fun _ _ h => by cases h⟩
theorem TimesE.next {T : List (EnK D2)} {l : List P11} {tm : D2 → Option Int} (h : TimesE T l tm) (x : P11) (c : Nat) (hx : ∀ p ∈ l, p.d = x.d → p.t = x.t) : TimesE (putE T x.d (.int .i64 x.t) c) (l ++ [x]) (fun d => if d = x.d then some x.t else tm d) := by
  refine ⟨fun d => ?_, fun p hp => ?_, fun d t ht => ?_⟩
  · rw [lookE_put, h.look]
    by_cases hd : d = x.d
    · rw [if_pos hd, if_pos hd]; rfl
    · rw [if_neg hd, if_neg hd]
  · rcases List.mem_append.1 hp with hp | hp
    · by_cases hd : p.d = x.d
      · rw [if_pos hd, hx p hp hd]
      · rw [if_neg hd]; exact h.has p hp
    · rw [List.mem_singleton.1 hp, if_pos rfl]
  · replace ht : (if d = x.d then some x.t else tm d) = some t := ht
    by_cases hd : d = x.d
    · rw [if_pos hd] at ht
      injection ht with ht
      exact ⟨x, by simp, hd.symm, ht⟩
    · rw [if_neg hd] at ht
      obtain ⟨p, hp, h1⟩ := h.from_ d t ht
      exact ⟨p, List.mem_append_left _ hp, h1⟩

/-- but for two blocks a world is as it was -/
structure OffM (g h : Nat) (w W : World) : Prop where
  os : W.os = w.os
  tape : W.tape = w.tape
  output : W.output = w.output
  size : w.heap.size ≤ W.heap.size
  block : ∀ k, k < w.heap.size → k ≠ g → k ≠ h → W.heap[k]? = w.heap[k]?
theorem OffM.refl (g h : Nat) (w : World) : OffM g h w w := ⟨rfl, rfl, rfl, Nat.le_refl _, fun _ _ _ _ => rfl⟩
theorem OffM.trans {g h : Nat} {a b c : World} (x : OffM g h a b) (y : OffM g h b c) : OffM g h a c :=
  ⟨y.os.trans x.os, y.tape.trans x.tape, y.output.trans x.output, Nat.le_trans x.size y.size, fun k hk h1 h2 => (y.block k (Nat.lt_of_lt_of_le hk x.size) h1 h2).trans (x.block k hk h1 h2)⟩
theorem OffM.of {g h : Nat} {a b : World} (x : Below a.heap.size a b) : OffM g h a b := ⟨x.os, x.tape, x.output, x.size, fun k hk _ _ => x.block k hk⟩
theorem OffM.alloc {g h : Nat} {a b : World} (x : OffM g h a b) (o : Obj) : OffM g h a (b.alloc o) := x.trans (.of (below_new (Below.refl _ _) _))
theorem OffM.drew {g h : Nat} {a b : World} (x : OffM g h a b) : OffM g h a b.drew := x.trans (.of (Below.refl _ _).drew)
theorem OffM.putL {g h : Nat} {a b : World} (x : OffM g h a b) (o : Obj) : OffM g h a (putBlock b g o) :=
  x.trans ⟨rfl, rfl, rfl, by rw [putBlock_size]; exact Nat.le_refl _, fun k _ h1 _ => putBlock_other _ _ h1⟩
theorem OffM.putR {g h : Nat} {a b : World} (x : OffM g h a b) (o : Obj) : OffM g h a (putBlock b h o) :=
  x.trans ⟨rfl, rfl, rfl, by rw [putBlock_size]; exact Nat.le_refl _, fun k _ _ h2 => putBlock_other _ _ h2⟩
theorem OffM.below {g h B : Nat} {a b : World} (x : OffM g h a b) (hB : B ≤ a.heap.size) (hg : B ≤ g) (hh : B ≤ h) : Below B a b := ⟨x.os, x.tape, x.output, x.size, fun k hk => x.block k (by omega) (by omega) (by omega)⟩
end Go.Proofs.Ytlgpijdemfccaaa

