/- Several texts laid together: TxtGone, TxtMeet, TxtVar, Strs, TxtTyped, TxtTwo. -/
import Derived.Test.YtlgpijdemfccaaaMbTxtType
import Derived.Test.YtlgpijdemfccaaaMbTxtAlive
import Derived.Test.YtlgpijdemfccaaaMbRowOpen
import Derived.Deep.RegionHeld3
import Derived.Deep.CutBlock
import Derived.Lib.Hide
namespace Go.Proofs.Ytlgpijdemfccaaa
set_option maxRecDepth 100000
open Go.RowKit

theorem erP_nm (N : N3) (p : P11) : nm (erP N p) = nm p := by unfold erP; split <;> rfl
theorem erP_up (N : N3) (p : P11) : upN (erP N p) = upN p := by unfold erP; split <;> rfl
theorem erP_st (N : N3) (p : P11) : stP (erP N p) = stP p := by unfold erP; split <;> rfl
theorem erP_i (N : N3) (p : P11) : (erP N p).i = p.i := by unfold erP; split <;> rfl
theorem erP_d (N : N3) (p : P11) : (erP N p).d = p.d := by unfold erP; split <;> rfl
theorem erP_t (N : N3) (p : P11) : (erP N p).t = p.t := by unfold erP; split <;> rfl
theorem erP_formed (N : N3) (p : P11) : formedT (erP N p) = formedT p := by unfold erP; split <;> rfl
theorem erP_g (N : N3) (p : P11) : (erP N p).g = (p.g || decide (nm p = N)) := by
  unfold erP
  split
  · rename_i h; simp [h]
  · rename_i h; simp [h]
theorem erP_ahead (N : N3) (p q : P11) : ahead (erP N p) (erP N q) = ahead p q := by unfold ahead; rw [erP_st, erP_st, erP_i, erP_i]
theorem erP_older (N : N3) (p q : P11) : older (erP N p) (erP N q) = older p q := by unfold older; rw [erP_st, erP_st, erP_i, erP_i]
theorem erP_twice (N : N3) (p : P11) : erP N (erP N p) = erP N p := by
  by_cases h : nm p = N
  · have e : erP N p = { p with g := true } := by unfold erP; rw [if_pos h]
    rw [e]
    unfold erP
    rw [if_pos (show nm { p with g := true } = N from h)]
  · have e : erP N p = p := by unfold erP; rw [if_neg h]
    rw [e, e]
theorem erP_swap (N M : N3) (p : P11) : erP N (erP M p) = erP M (erP N p) := by
  have e : ∀ (A B : N3), erP A (erP B p) = { p with g := (p.g || decide (nm p = B)) || decide (nm p = A) } := by
    intro A B
    have h1 : ∀ (C : N3) (q : P11), erP C q = { q with g := q.g || decide (nm q = C) } := by
      intro C q
      unfold erP
      split
      · rename_i h; rw [decide_eq_true h, Bool.or_true]
      · rename_i h; rw [decide_eq_false h, Bool.or_false]
    rw [h1 A, erP_nm, h1 B]
  rw [e, e, Bool.or_assoc, Bool.or_assoc, Bool.or_comm (decide (nm p = M))]
theorem eraseL_twice (l : List P11) (N : N3) : eraseL (eraseL l N) N = eraseL l N := by
  rw [eraseL, eraseL, List.map_map]
  exact List.map_congr_left fun p _ => erP_twice N p
theorem eraseL_swap (l : List P11) (N M : N3) : eraseL (eraseL l N) M = eraseL (eraseL l M) N := by
  rw [eraseL, eraseL, eraseL, eraseL, List.map_map, List.map_map]
  exact List.map_congr_left fun p _ => erP_swap M N p

theorem er_insT (N : N3) (x : P11) : ∀ l, insT (erP N x) (l.map (erP N)) = (insT x l).map (erP N)
  | [] => rfl
  | y :: l => by
    rw [List.map_cons, insT, insT, erP_ahead]
    split
    · rw [List.map_cons, er_insT N x l]
    · rfl
theorem er_srtT (N : N3) : ∀ l, srtT (eraseL l N) = (srtT l).map (erP N)
  | [] => rfl
  | y :: l => by
    have := er_srtT N l
    unfold srtT eraseL at *
    rw [List.map_cons, List.foldr_cons, this, er_insT, List.foldr_cons]
theorem er_kids (N : N3) (s : List P11) (n : N3) : kidsT (s.map (erP N)) n = (kidsT s n).map (erP N) := by
  unfold kidsT
  rw [List.filter_map]
  congr 1
  apply List.filter_congr
  intro p _
  simp only [Function.comp, erP_up]
theorem er_hang (N : N3) (m m' : N3 → List P11) (h : ∀ n, m' n = (m n).map (erP N)) : ∀ (k : Nat) (p : P11), hangT m' k (erP N p) = (hangT m k p).map (erP N)
  | 0, p => rfl
  | k + 1, p => by
    rw [hangT, hangT, List.map_cons, erP_nm, h, List.map_flatMap, List.flatMap_map]
    congr 1
    congr 1
    funext q
    exact er_hang N m m' h k q
theorem er_ordT (l : List P11) (N : N3) : ordT (eraseL l N) = eraseL (ordT l) N := by
  have hk : ∀ n, kidsT (srtT (eraseL l N)) n = (kidsT (srtT l) n).map (erP N) := fun n => by rw [er_srtT, er_kids]
  have h0 : ordT (eraseL l N) = (kidsT (srtT (eraseL l N)) zN).flatMap (hangT (kidsT (srtT (eraseL l N))) l.length) := by rw [ordT, eraseL_len]
  rw [h0, hk]
  rw [show eraseL (ordT l) N = (ordT l).map (erP N) from rfl, ordT, List.map_flatMap, List.flatMap_map]
  congr 1
  funext q
  exact er_hang N _ _ hk _ q
theorem er_whole {l : List P11} (h : WholeT l) (N : N3) : WholeT (eraseL l N) := by
  refine ⟨?_, ?_, ?_, ?_⟩
  · intro p hp
    obtain ⟨q, hq, rfl⟩ := List.mem_map.1 hp
    rw [erP_formed]; exact h.1 q hq
  · refine List.pairwise_map.2 (h.2.1.imp ?_)
    intro a b hab; rw [erP_nm, erP_nm]; exact hab
  · intro p hp q hq e
    obtain ⟨p', hp', rfl⟩ := List.mem_map.1 hp
    obtain ⟨q', hq', rfl⟩ := List.mem_map.1 hq
    rw [erP_d, erP_d] at e
    rw [erP_t, erP_t]
    exact h.2.2.1 p' hp' q' hq' e
  · intro p hp
    obtain ⟨p', hp', rfl⟩ := List.mem_map.1 hp
    rcases h.2.2.2 p' hp' with h1 | ⟨q, hq, h1, h2⟩
    · exact .inl (by rw [erP_up]; exact h1)
    · exact .inr ⟨erP N q, List.mem_map_of_mem hq, by rw [erP_nm, erP_up]; exact h1, by rw [erP_older]; exact h2⟩
theorem er_right {k : Int} {v : V3} {l : List P11} (h : rightT10 k v l = 0) (N : N3) : rightT10 k v (eraseL l N) = 0 := by
  obtain ⟨h1, h2, h3, h4, h5⟩ := rightT10_ok.1 h
  exact rightT10_ok.2 ⟨h1, h2, er_whole h3 N, by rw [eraseL_len]; exact h4, by rw [er_ordT, h5]⟩
theorem er_free (N : N3) (d : D2) (l : List P11) : freeT (eraseL l N) d = freeT l d := by
  unfold freeT eraseL
  rw [List.foldl_map]
  congr 1
  funext m p
  rw [erP_d, erP_i]
theorem er_clash (N : N3) (who : S3) (l : List P11) : clashT (eraseL l N) who = clashT l who := by
  unfold clashT eraseL
  rw [List.any_map]
  congr 1
  funext p
  simp only [Function.comp, erP_d, erP_t]
theorem er_stand (N M : N3) (who : S3) (l : List P11) : standT (eraseL l N) who M = standT l who M := by
  unfold standT eraseL
  rw [List.find?_map]
  have : (fun p => decide (nm p = M)) ∘ erP N = fun p => decide (nm p = M) := by funext p; simp only [Function.comp, erP_nm]
  rw [this]
  split
  · rfl
  · cases l.find? (fun p => decide (nm p = M)) with
    | none => rfl
    | some q => simp only [Option.map_some, erP_st]
theorem er_may {k : Int} {v : V3} {l : List P11} (h : rightT10 k v l = 0) (sl : Nat) (who : S3) (N M : N3) : mayT k v (eraseL l N) sl who M = mayT k v l sl who M := by
  unfold mayT
  rw [if_pos h, if_pos (er_right h N), er_clash, er_free, er_stand, eraseL_len]
theorem er_new (N : N3) (d : D2) (t : Int) : ∀ (bs : List Int) (f : Int) (M : N3), (N.d = d → N.i < f) → (newL bs d t f M).map (erP N) = newL bs d t f M
  | [], _, _, _ => rfl
  | b :: bs, f, M, h => by
    rw [newL, List.map_cons, er_new N d t bs (f + 1) ⟨d, f⟩ (fun e => by have := h e; omega)]
    congr 1
    unfold erP
    rw [if_neg]
    intro e
    have e1 : d = N.d := congrArg N3.d e
    have e2 : f = N.i := congrArg N3.i e
    have := h e1.symm
    omega
theorem er_type {k : Int} {v : V3} {l : List P11} {s : ByteArray} {who : S3} {N : N3} (h : mayT k v l s.size who N = 0) : eraseL (typeL l s who N) N = typeL (eraseL l N) s who N := by
  have hc := can_of h
  obtain ⟨h1, h2, h3, h4, h5, h6, h7⟩ := mayT_ok.1 h
  have hr := (rightSt_iff who).1 h2
  have hN : N.d = dotS who → N.i < freeT l (dotS who) := by
    intro e
    rcases hc.up with h8 | ⟨q, hq, h8, _⟩
    · rw [h8] at e
      have e3 : (0 : Int) = who.d := congrArg D2.d e
      have := hr.2.1.1
      omega
    · have h9 : q.d = dotS who := by rw [← e, ← h8]; rfl
      have h10 := hc.free q hq h9
      rw [← h8]; exact h10
  unfold typeL
  rw [← er_ordT]
  congr 1
  unfold addL
  rw [er_free]
  unfold eraseL
  rw [List.map_append, er_new N _ _ _ _ _ hN]
end Go.Proofs.Ytlgpijdemfccaaa

namespace Go.Proofs.Ytlgpijdemfccaaa
set_option maxRecDepth 100000
open Go.RowKit

/-- what a writer types, from a text on -/
def typedL (k : Int) (v : V3) (w : S3) (N : N3) : List P11 → List ByteArray → List P11
  | l, [] => l
  | l, s :: ss => typedL k v w N (if mayT k v l s.size w N = 0 then typeL l s w N else l) ss
theorem type_right {k : Int} {v : V3} {l : List P11} {s : ByteArray} {w : S3} {N : N3} (h : mayT k v l s.size w N = 0) : rightT10 k v (typeL l s w N) = 0 := by
  obtain ⟨h1, h2, h3, h4, h5, h6, h7⟩ := mayT_ok.1 h
  obtain ⟨e1, e2, e3, e4, e5⟩ := rightT10_ok.1 h1
  have hw := addL_whole h
  exact rightT10_ok.2 ⟨e1, e2, ordT_whole hw, by rw [typeL, ordT_len hw, addL_len, sbytes_len]; exact h5, ordT_twice hw⟩
theorem typed_right {k : Int} {v : V3} {w : S3} {N : N3} : ∀ (ss : List ByteArray) (l : List P11), rightT10 k v l = 0 → rightT10 k v (typedL k v w N l ss) = 0
  | [], _, h => h
  | s :: ss, l, h => by
    rw [typedL]
    refine typed_right ss _ ?_
    split
    · rename_i h1; exact type_right h1
    · exact h
/-- texts that are right, of the same parts, are the same -/
theorem right_perm {k : Int} {v : V3} {l m : List P11} (h : rightT10 k v l = 0) (h' : rightT10 k v m = 0) (hp : l.Perm m) : l = m := by
  obtain ⟨_, _, e3, _, e5⟩ := rightT10_ok.1 h
  obtain ⟨_, _, _, _, e6⟩ := rightT10_ok.1 h'
  rw [← e5, ← e6]
  exact ordT_of_perm e3 hp
theorem type_perm {k : Int} {v : V3} {l : List P11} {s : ByteArray} {w : S3} {N : N3} (h : mayT k v l s.size w N = 0) : (typeL l s w N).Perm (l ++ newL (sbytes s) (dotS w) w.t (freeT l (dotS w)) N) := ordT_perm (addL_whole h)

/-- what of a text plays a part in what a writer may type -/
structure SeesT (w : S3) (N : N3) (l m : List P11) : Prop where
  free : freeT m (dotS w) = freeT l (dotS w)
  clash : clashT m w = clashT l w
  stand : standT m w N = standT l w N
theorem SeesT.may {k : Int} {v : V3} {w : S3} {N : N3} {l m : List P11} (h : SeesT w N l m) (hl : rightT10 k v l = 0) (hm : rightT10 k v m = 0) {sl : Nat} (h1 : l.length + sl ≤ 2000) (h2 : m.length + sl ≤ 2000) : mayT k v m sl w N = mayT k v l sl w N := by
  unfold mayT
  rw [if_pos hl, if_pos hm, h.clash, h.free, h.stand]
  have : (200 < sl ∨ 2000 < m.length + sl ∨ 2000 < freeT l (dotS w) + sl) ↔ (200 < sl ∨ 2000 < l.length + sl ∨ 2000 < freeT l (dotS w) + sl) := by omega
  simp only [this]
theorem free_foldl (d : D2) : ∀ (l : List P11) (a b : Int), l.foldl (fun m p => if p.d = d then max m (p.i + 1) else m) (max a b) = max a (l.foldl (fun m p => if p.d = d then max m (p.i + 1) else m) b)
  | [], _, _ => rfl
  | x :: l, a, b => by
    rw [List.foldl_cons, List.foldl_cons]
    split
    · rw [show max (max a b) (x.i + 1) = max a (max b (x.i + 1)) by omega]
      exact free_foldl d l _ _
    · exact free_foldl d l _ _
theorem free_nonneg (l : List P11) (d : D2) : 0 ≤ freeT l d := by
  have := free_foldl d l 0 0
  unfold freeT
  rw [show max (0 : Int) 0 = 0 from rfl] at this
  omega
theorem freeT_append (l m : List P11) (d : D2) : freeT (l ++ m) d = max (freeT l d) (freeT m d) := by
  have h := free_nonneg l d
  unfold freeT at *
  rw [List.foldl_append]
  generalize l.foldl (fun m p => if p.d = d then max m (p.i + 1) else m) 0 = a at *
  have := free_foldl d m a 0
  rw [show max a 0 = a by omega] at this
  exact this
theorem free_perm {l m : List P11} (h : l.Perm m) (d : D2) : freeT l d = freeT m d := by
  induction h with
  | nil => rfl
  | @cons x l1 l2 _ ih =>
    have e : ∀ (q : List P11), freeT (x :: q) d = max (freeT [x] d) (freeT q d) := fun q => freeT_append [x] q d
    rw [e l1, e l2, ih]
  | swap x y q =>
    have e : ∀ (x : P11) (q : List P11), freeT (x :: q) d = max (freeT [x] d) (freeT q d) := fun x q => freeT_append [x] q d
    rw [e y (x :: q), e x q, e x (y :: q), e y q]
    omega
  | trans _ _ a b => exact a.trans b
theorem clash_perm {l m : List P11} (h : l.Perm m) (w : S3) : clashT l w = clashT m w := by
  unfold clashT
  rw [Bool.eq_iff_iff, List.any_eq_true, List.any_eq_true]
  constructor
  · rintro ⟨x, hx, h2⟩; exact ⟨x, h.mem_iff.1 hx, h2⟩
  · rintro ⟨x, hx, h2⟩; exact ⟨x, h.mem_iff.2 hx, h2⟩
theorem clash_append (l m : List P11) (w : S3) : clashT (l ++ m) w = (clashT l w || clashT m w) := by unfold clashT; rw [List.any_append]
/-- where names are unlike, the order plays no part in what a name stands for -/
theorem find_perm {l m : List P11} (h : l.Perm m) (hw : l.Pairwise (fun p q => nm p ≠ nm q)) (N : N3) : l.find? (fun p => decide (nm p = N)) = m.find? (fun p => decide (nm p = N)) := by
  have hm : m.Pairwise (fun p q => nm p ≠ nm q) := h.pairwise hw (fun hn e => hn e.symm)
  cases h1 : l.find? (fun p => decide (nm p = N)) with
  | none =>
    symm
    rw [List.find?_eq_none] at h1 ⊢
    exact fun x hx => h1 x (h.mem_iff.2 hx)
  | some x =>
    cases h2 : m.find? (fun p => decide (nm p = N)) with
    | none =>
      rw [List.find?_eq_none] at h2
      exact absurd (List.find?_some h1) (h2 x (h.mem_iff.1 (List.mem_of_find?_eq_some h1)))
    | some y =>
      have e1 : nm x = N := by simpa using List.find?_some h1
      have e2 : nm y = N := by simpa using List.find?_some h2
      rw [pair_ne hm (h.mem_iff.1 (List.mem_of_find?_eq_some h1)) (List.mem_of_find?_eq_some h2) (e1.trans e2.symm)]
theorem stand_perm {l m : List P11} (h : l.Perm m) (hw : l.Pairwise (fun p q => nm p ≠ nm q)) (w : S3) (N : N3) : standT l w N = standT m w N := by unfold standT; rw [find_perm h hw N]
/-- a name that parts don't have: they play no part -/
theorem stand_append {l X : List P11} {w : S3} {N : N3} (h : ∀ p ∈ X, nm p ≠ N) : standT (l ++ X) w N = standT l w N := by
  unfold standT
  rw [List.find?_append]
  have : X.find? (fun p => decide (nm p = N)) = none := by
    rw [List.find?_eq_none]
    intro x hx
    simpa using h x hx
  rw [this, Option.or_none]
theorem new_d {b : List Int} {d : D2} {t f : Int} {N : N3} : ∀ p ∈ newL b d t f N, p.d = d ∧ p.t = t := by
  induction b generalizing f N with
  | nil => intro p hp; cases hp
  | cons x b ih =>
    intro p hp
    rw [newL] at hp
    rcases List.mem_cons.1 hp with rfl | hp
    · exact ⟨rfl, rfl⟩
    · exact ih p hp
theorem free_none {X : List P11} {d : D2} (h : ∀ p ∈ X, p.d ≠ d) : freeT X d = 0 := by
  unfold freeT
  suffices H : ∀ (X : List P11) (a : Int), (∀ p ∈ X, p.d ≠ d) → X.foldl (fun m p => if p.d = d then max m (p.i + 1) else m) a = a from H X 0 h
  intro X
  induction X with
  | nil => intros; rfl
  | cons x X ih =>
    intro a h
    rw [List.foldl_cons, if_neg (h x (.head _))]
    exact ih a (fun p hp => h p (.tail _ hp))
theorem clash_none {X : List P11} {w : S3} (h : ∀ p ∈ X, p.d ≠ dotS w) : clashT X w = false := by
  unfold clashT
  rw [List.any_eq_false]
  intro x hx
  simp [h x hx]
/-- other writers' parts play no part -/
theorem sees_other {l X m : List P11} {w : S3} {N : N3} (hp : m.Perm (l ++ X)) (hw : m.Pairwise (fun p q => nm p ≠ nm q)) (h : ∀ p ∈ X, p.d ≠ dotS w) (h2 : ∀ p ∈ X, nm p ≠ N) : SeesT w N l m :=
  ⟨by rw [free_perm hp, freeT_append, free_none h]; have := free_nonneg l (dotS w); omega,
   by rw [clash_perm hp, clash_append, clash_none h, Bool.or_false],
   by rw [stand_perm hp hw, stand_append h2]⟩
/-- nor does what is erased -/
theorem sees_erased (l : List P11) (M : N3) (w : S3) (N : N3) : SeesT w N l (eraseL l M) := ⟨er_free M _ l, er_clash M w l, er_stand M N w l⟩
theorem SeesT.trans {w : S3} {N : N3} {a b c : List P11} (h : SeesT w N a b) (h2 : SeesT w N b c) : SeesT w N a c := ⟨h2.free.trans h.free, h2.clash.trans h.clash, h2.stand.trans h.stand⟩
theorem stand_keep {l Y : List P11} {w : S3} {N : N3} (h : standT l w N = 0) : standT (l ++ Y) w N = 0 := by
  unfold standT at *
  by_cases h0 : N = zN
  · rw [if_pos h0]
  · rw [if_neg h0] at h ⊢
    rw [List.find?_append]
    cases hf : l.find? (fun p => decide (nm p = N)) with
    | none => rw [hf] at h; cases h
    | some q => rw [hf] at h; exact h
def szL (ss : List ByteArray) : Nat := (ss.map (·.size)).sum
theorem typed_news {k : Int} {v : V3} {w : S3} {N : N3} : ∀ (ss : List ByteArray) (l m : List P11), rightT10 k v l = 0 → rightT10 k v m = 0 → SeesT w N l m → l.length + szL ss ≤ 2000 → m.length + szL ss ≤ 2000 →
    ∃ X, (typedL k v w N l ss).Perm (l ++ X) ∧ (typedL k v w N m ss).Perm (m ++ X) ∧ (∀ p ∈ X, p.d = dotS w) ∧ X.length ≤ szL ss
  | [], l, m, _, _, _, _, _ => ⟨[], by simp [typedL], by simp [typedL], by simp, Nat.zero_le _⟩
  | s :: ss, l, m, hl, hm, hS, h1, h2 => by
    have e : szL (s :: ss) = s.size + szL ss := by simp [szL]
    rw [e] at h1 h2
    have hmay := hS.may hl hm (sl := s.size) (by omega) (by omega)
    rw [typedL, typedL, hmay]
    by_cases h : mayT k v l s.size w N = 0
    · rw [if_pos h, if_pos h]
      have h' : mayT k v m s.size w N = 0 := hmay.trans h
      have p1 := type_perm h
      have p2 := type_perm h'
      rw [hS.free] at p2
      obtain ⟨_, _, _, _, _, _, hst⟩ := mayT_ok.1 h
      obtain ⟨_, _, _, _, _, _, hst'⟩ := mayT_ok.1 h'
      obtain ⟨_, _, w1, _, _⟩ := rightT10_ok.1 (type_right h)
      obtain ⟨_, _, w2, _, _⟩ := rightT10_ok.1 (type_right h')
      have l1 : (typeL l s w N).length = l.length + s.size := by rw [p1.length_eq, List.length_append, newL_len, sbytes_len]
      have l2 : (typeL m s w N).length = m.length + s.size := by rw [p2.length_eq, List.length_append, newL_len, sbytes_len]
      have hS2 : SeesT w N (typeL l s w N) (typeL m s w N) := by
        refine ⟨?_, ?_, ?_⟩
        · rw [free_perm p1, free_perm p2, freeT_append, freeT_append, hS.free]
        · rw [clash_perm p1, clash_perm p2, clash_append, clash_append, hS.clash]
        · rw [stand_perm p1 w1.2.1, stand_perm p2 w2.2.1, stand_keep hst, stand_keep hst']
      obtain ⟨X, x1, x2, x3, x4⟩ := typed_news ss _ _ (type_right h) (type_right h') hS2 (by omega) (by omega)
      refine ⟨newL (sbytes s) (dotS w) w.t (freeT l (dotS w)) N ++ X, ?_, ?_, ?_, by rw [List.length_append, newL_len, sbytes_len, e]; omega⟩
      · rw [← List.append_assoc]; exact x1.trans (p1.append_right X)
      · rw [← List.append_assoc]; exact x2.trans (p2.append_right X)
      · intro p hp
        rcases List.mem_append.1 hp with hp | hp
        · exact (new_d p hp).1
        · exact x3 p hp
    · rw [if_neg h, if_neg h]
      obtain ⟨X, x1, x2, x3, x4⟩ := typed_news ss l m hl hm hS (by omega) (by omega)
      exact ⟨X, x1, x2, x3, by omega⟩
theorem erase_none {X : List P11} {N : N3} (h : ∀ p ∈ X, nm p ≠ N) : eraseL X N = X := by
  unfold eraseL
  rw [List.map_congr_left (g := id) (fun p hp => by unfold erP; rw [if_neg (h p hp)]; rfl), List.map_id]
theorem erase_append (l X : List P11) (N : N3) : eraseL (l ++ X) N = eraseL l N ++ eraseL X N := List.map_append
theorem erase_perm {l m : List P11} (h : l.Perm m) (N : N3) : (eraseL l N).Perm (eraseL m N) := h.map _

/-- TextMeets, of lists: two writers who don't know of each other come to one text -/
theorem meets10 {k : Int} {v : V3} {l : List P11} {a b : S3} {P Q : N3} {ss tt : List ByteArray} (h : rightT10 k v l = 0) (hab : dotS a ≠ dotS b) (hP : P.d ≠ dotS b) (hQ : Q.d ≠ dotS a) (hlen : l.length + szL ss + szL tt ≤ 2000) :
    eraseL (typedL k v b Q (eraseL (typedL k v a P l ss) P) tt) Q = eraseL (typedL k v a P (eraseL (typedL k v b Q l tt) Q) ss) P ∧
    rightT10 k v (eraseL (typedL k v b Q (eraseL (typedL k v a P l ss) P) tt) Q) = 0 := by
  have key : ∀ (a b : S3) (P Q : N3) (ss tt : List ByteArray), dotS a ≠ dotS b → P.d ≠ dotS b → l.length + szL ss + szL tt ≤ 2000 → ∃ X Y, (typedL k v a P l ss).Perm (l ++ X) ∧ (typedL k v b Q l tt).Perm (l ++ Y) ∧ (typedL k v a P (eraseL (typedL k v b Q l tt) Q) ss).Perm (eraseL (typedL k v b Q l tt) Q ++ X) ∧ (∀ p ∈ X, p.d = dotS a) ∧ ∀ p ∈ Y, p.d = dotS b := by
    intro a b P Q ss tt hab hP hlen
    obtain ⟨Y, y1, _, y3, y4⟩ := typed_news tt l l h h ⟨rfl, rfl, rfl⟩ (w := b) (N := Q) (by omega) (by omega)
    have hr := typed_right (w := b) (N := Q) tt l h
    obtain ⟨_, _, hw, _, _⟩ := rightT10_ok.1 hr
    have hS : SeesT a P l (eraseL (typedL k v b Q l tt) Q) :=
      (sees_other y1 hw.2.1 (fun p hp e => hab (e.symm.trans (y3 p hp))) (fun p hp e => hP ((congrArg N3.d e).symm.trans (y3 p hp)))).trans (sees_erased _ Q a P)
    have hlY : (eraseL (typedL k v b Q l tt) Q).length = l.length + Y.length := by rw [eraseL_len, y1.length_eq, List.length_append]
    obtain ⟨X, x1, x2, x3, _⟩ := typed_news ss l _ h (er_right hr Q) hS (by omega) (by omega)
    exact ⟨X, Y, x1, y1, x2, x3, y3⟩
  obtain ⟨X, Y, x1, y1, x2, x3, y3⟩ := key a b P Q ss tt hab hP hlen
  obtain ⟨Y', X', y1', x1', y2, y3', x3'⟩ := key b a Q P tt ss (fun e => hab e.symm) hQ (by omega)
  have nX : ∀ p ∈ X, nm p ≠ Q := fun p hp e => hQ ((congrArg N3.d e).symm.trans (x3 p hp))
  have nY : ∀ p ∈ Y', nm p ≠ P := fun p hp e => hP ((congrArg N3.d e).symm.trans (y3' p hp))
  have hXX : X'.Perm X := (List.perm_append_left_iff l).1 (x1'.symm.trans x1)
  have hYY : Y'.Perm Y := (List.perm_append_left_iff l).1 (y1'.symm.trans y1)
  have r1 : rightT10 k v (eraseL (typedL k v b Q (eraseL (typedL k v a P l ss) P) tt) Q) = 0 := er_right (typed_right tt _ (er_right (typed_right ss l h) P)) Q
  have r2 : rightT10 k v (eraseL (typedL k v a P (eraseL (typedL k v b Q l tt) Q) ss) P) = 0 := er_right (typed_right ss _ (er_right (typed_right tt l h) Q)) P
  refine ⟨right_perm r1 r2 ?_, r1⟩
  -- one side: what a typed, then what b typed
  have o1 : (eraseL (typedL k v b Q (eraseL (typedL k v a P l ss) P) tt) Q).Perm (eraseL (eraseL (l ++ X ++ Y') P) Q) := by
    refine erase_perm (y2.trans ?_) Q
    rw [erase_append (l ++ X), erase_none nY]
    exact (erase_perm x1 P).append_right Y'
  have o2 : (eraseL (typedL k v a P (eraseL (typedL k v b Q l tt) Q) ss) P).Perm (eraseL (eraseL (l ++ Y ++ X) Q) P) := by
    refine erase_perm (x2.trans ?_) P
    rw [erase_append (l ++ Y), erase_none nX]
    exact (erase_perm y1 Q).append_right X
  have o3 : (l ++ X ++ Y').Perm (l ++ Y ++ X) := by
    rw [List.append_assoc, List.append_assoc]
    exact List.Perm.append_left l (((hYY.append_left X)).trans List.perm_append_comm)
  rw [eraseL_swap] at o1
  exact o1.trans ((erase_perm (erase_perm o3 Q) P).trans o2.symm)
end Go.Proofs.Ytlgpijdemfccaaa

namespace Go.Proofs.Ytlgpijdemfccaaa
set_option maxRecDepth 100000
open Go.RowKit

theorem rdp_set {w : World} {A : Option Addr} {n c : Nat} {l : List P11} (h : RdP w A n c l) {g : Nat} {cs : Array Value} {t : TypeId} {fr : Nat × Nat} (hg : w.heap[g]? = some (.cells cs t fr)) (hs : cs.size ≤ 10) (j : Nat) (v : Value) : RdP (w.setCell ⟨g, j, none⟩ v) A n c l := by
  obtain ⟨hl, h1, h2, hx⟩ := h
  refine ⟨hl, h1, h2, fun h0 => ?_⟩
  obtain ⟨b, o, rfl, hb, hc⟩ := hx h0
  have hbg : b ≠ g := by
    intro e
    subst e
    have h3 := hc 0 (by omega) 10 _ rfl
    rw [cell_row hg] at h3
    have h4 := (Array.getElem?_eq_some_iff.1 h3).1
    omega
  refine ⟨b, o, rfl, by rw [World.size_setCell]; exact hb, fun q hq i u hu => ?_⟩
  rw [World.cell?_setCell_other _ _ _ _ (by intro e; simp only [Addr.mk.injEq] at e; exact hbg (by first | exact e.1 | exact e.1.symm))]
  exact hc q hq i u hu
theorem rdp_set5 {w : World} {A : Option Addr} {n c : Nat} {l : List P11} (h : RdP w A n c l) {g : Nat} {k : Int} {u : V3} {s : Value} (hg : w.heap[g]? = some (cellRow k u s)) (x y z a b : Value) :
    RdP (((((w.setCell ⟨g, 0, none⟩ x).setCell ⟨g, 1, none⟩ y).setCell ⟨g, 2, none⟩ z).setCell ⟨g, 3, none⟩ a).setCell ⟨g, 4, none⟩ b) A n c l := by
  have r1 := set_row hg 0 x
  have r2 := set_row r1 1 y
  have r3 := set_row r2 2 z
  have r4 := set_row r3 3 a
  exact rdp_set (rdp_set (rdp_set (rdp_set (rdp_set h hg (by simp) 0 x) r1 (by simp) 1 y) r2 (by simp) 2 z) r3 (by simp) 3 a) r4 (by simp) 4 b

theorem below_set5 {w0 w : World} {B g : Nat} {x y z a b : Value} (h : Below B w0 w) (hg : B ≤ g) : Below B w0 (((((w.setCell ⟨g, 0, none⟩ x).setCell ⟨g, 1, none⟩ y).setCell ⟨g, 2, none⟩ z).setCell ⟨g, 3, none⟩ a).setCell ⟨g, 4, none⟩ b) :=
  ((((h.setCell hg x).setCell hg y).setCell hg z).setCell hg a).setCell hg b

theorem nested_row9 (w : World) (o o' : Obj) : ((w.alloc o).alloc o').heap[w.heap.size]? = some o := row_below (heap_alloc_new w o) (below_new (Below.refl _ _) o')

theorem below_set5h {w0 w : World} {B g : Nat} {o : Obj} {x y z a b : Value} (_ : w.heap[g]? = some o) (h : Below B w0 w) (hg : B ≤ g) : Below B w0 (((((w.setCell ⟨g, 0, none⟩ x).setCell ⟨g, 1, none⟩ y).setCell ⟨g, 2, none⟩ z).setCell ⟨g, 3, none⟩ a).setCell ⟨g, 4, none⟩ b) := below_set5 h hg

theorem at_world {K : Act → World → Prop} {Q : Exit → Act → World → Prop} {a : Act} {Z : World} (i j : Nat) {g h : Nat} (_hi : a.tmps.getD i undef = .pointer (some ⟨g, 0, none⟩)) (_hj : a.tmps.getD j undef = .pointer (some ⟨h, 0, none⟩)) (F : Nat → Nat → World → Prop)
    (h1 : F g h Z) (h2 : ∀ Z', F g h Z' → Exit.then K Q .normal a Z') : Exit.then K Q .normal a Z := h2 Z h1

end Go.Proofs.Ytlgpijdemfccaaa

namespace Go.Proofs.Ytlgpijdemfccaaa
set_option maxRecDepth 100000
open Go.ChangeShapes Go.WideShapes Go.ChangeAt Go.RowKit

def strC (s : ByteArray) : List Value := [.string s]
abbrev RdT (w : World) (A : Option Addr) (n c : Nat) (l : List ByteArray) : Prop := RdG strC 1 w A n c l
theorem RdG.str {w : World} {A : Option Addr} {n c : Nat} {l : List ByteArray} (h : RdT w A n c l) {k : Nat} (hk : k < n) :
    ∃ b o s, A = some ⟨b, o, none⟩ ∧ b < w.heap.size ∧ l[k]? = some s ∧ ∀ w', Below w.heap.size w w' → w'.cell? ⟨b, o + k, none⟩ = some (.string s) := by
  obtain ⟨b, o, x, rfl, hb, hx, hc⟩ := h.at_ hk
  refine ⟨b, o, x, rfl, hb, hx, fun w' hw => ?_⟩
  have h1 := (hw.cell hb).trans (hc 0 _ rfl)
  rwa [Nat.mul_one, Nat.add_zero] at h1
theorem Try.cellsStr : Try.prog.cellsOf 9 = 1 := by kernel_rfl
theorem str_cells {H : Type} {enc : TypeId × Value → H} {W : World} (n : Nat) (cs : List Value) (r) (h : DataW.trod enc Try.prog W 0 (fun _ => true) true n 9 cs = some r) : ∃ s : ByteArray, cs = strC s ∧ s.size ≤ maxLen := by
  obtain ⟨s, e0, _, w0⟩ := DataW.trod_string Try.underlying9 h
  exact ⟨s, e0, by simpa using w0⟩
theorem open_strs {H : Type} {enc : TypeId × Value → H} {W : World} {base : Nat} {v : Value} {d : DataW H} {ps : List MemPlace} (hval : Value.okWide Try.prog W .any base 38 v) (h : DataW.Trod enc Try.prog W 0 (fun _ => true) true 38 v d ps) :
    ∃ A n c l, v = .slice A n c ∧ RdT W A n c l ∧ ∀ x ∈ l, x.size ≤ maxLen :=
  open_sg (α := ByteArray) Try.underlying38 Try.cellsStr str_cells hval h (by decide)
end Go.Proofs.Ytlgpijdemfccaaa

namespace Go.Proofs.Ytlgpijdemfccaaa
set_option maxRecDepth 100000
open Go.RowKit

/-- the loop's words: the cell that is being typed in -/
structure TydAt (g5 g6 g8 g10 : Nat) (k : Int) (v : V3) (who : S3) (d : D2) (L : List P11) (w W : World) : Prop where
  row : ∃ A m c, W.heap[g5]? = some (cellRow k v (.slice A m c)) ∧ RdP W A m c L ∧ m ≤ 2000
  r6 : W.heap[g6]? = some (stampRow who)
  r8 : W.heap[g8]? = some (dotRowT d)
  r10 : W.heap[g10]? = some (cellRow 0 ⟨0, 0, ⟨#[]⟩⟩ nilS)
  bel : Below w.heap.size w W
theorem TydAt.below {g5 g6 g8 g10 : Nat} {k : Int} {v : V3} {who : S3} {d : D2} {L : List P11} {w W W' : World} (h : TydAt g5 g6 g8 g10 k v who d L w W) (hb : Below W.heap.size W W') : TydAt g5 g6 g8 g10 k v who d L w W' := by
  obtain ⟨A, m, c, h1, h2, h3⟩ := h.row
  exact ⟨⟨A, m, c, row_below h1 hb, h2.below hb, h3⟩, row_below h.r6 hb, row_below h.r8 hb, row_below h.r10 hb, below_then h.bel hb⟩
theorem typedL_step {k : Int} {v : V3} {w : S3} {N : N3} {l : List P11} {ss : List ByteArray} {j : Nat} {s : ByteArray} (hs : ss[j]? = some s) : typedL k v w N l (ss.drop j) = typedL k v w N (if mayT k v l s.size w N = 0 then typeL l s w N else l) (ss.drop (j + 1)) := by
  obtain ⟨hj, e⟩ := List.getElem?_eq_some_iff.1 hs
  rw [List.drop_eq_getElem_cons hj, e, typedL]

set_option maxHeartbeats 12800000 in
theorem typed_any (k : Int) (v : V3) (A : Option Addr) (n c : Nat) (l : List P11) (who : S3) (B : Option Addr) (m e : Nat) (ss : List ByteArray) (d : D2) (i : Int) (w : World) (h : RdP w A n c l) (hn : n ≤ 2000) (hs : RdT w B m e ss) (hz : ∀ s ∈ ss, s.size ≤ 140737488355328) :
    Calls Try.prog 19 #[cellV k v (.slice A n c), who.agg, .slice B m e, d.agg, .int .i64 i] w fun e w' =>
      ∃ A' n' c', e = .returned (cellV k v (.slice A' n' c')) ∧ RdP w' A' n' c' (typedL k v who ⟨d, i⟩ l ss) ∧ Below w.heap.size w w' := by
  obtain ⟨w1, hw1⟩ : ∃ w1, w1 = (((w.alloc (cellRow k v (.slice A n c))).alloc (stampRow who)).alloc (dotRowT d)).alloc (cellRow 0 ⟨0, 0, ⟨#[]⟩⟩ nilS) := ⟨_, rfl⟩
  obtain ⟨g5, hg5⟩ : ∃ g5, g5 = w.heap.size := ⟨_, rfl⟩
  obtain ⟨g6, hg6⟩ : ∃ g6, g6 = w.heap.size + 1 := ⟨_, rfl⟩
  obtain ⟨g8, hg8⟩ : ∃ g8, g8 = w.heap.size + 1 + 1 := ⟨_, rfl⟩
  obtain ⟨g10, hg10⟩ : ∃ g10, g10 = w.heap.size + 1 + 1 + 1 := ⟨_, rfl⟩
  have hb1 : Below w.heap.size w w1 := by rw [hw1]; exact below_new (below_new (below_new (below_new (Below.refl _ _) _) _) _) _
  have r5 : w1.heap[g5]? = some (cellRow k v (.slice A n c)) := by rw [hw1, hg5]; exact heap_past (by simp only [World.size_alloc]; omega) (heap_past (by simp only [World.size_alloc]; omega) (heap_past (by simp) (heap_alloc_new w _)))
  have r6 : w1.heap[g6]? = some (stampRow who) := by rw [hw1, hg6]; exact heap_past (by simp only [World.size_alloc]; omega) (heap_past (by simp) (heap_at (by simp)))
  have r8 : w1.heap[g8]? = some (dotRowT d) := by rw [hw1, hg8]; exact heap_past (by simp) (heap_at (by simp))
  have r10 : w1.heap[g10]? = some (cellRow 0 ⟨0, 0, ⟨#[]⟩⟩ nilS) := by rw [hw1, hg10]; exact heap_at (by simp)
  have HQ : Hid (g5 ≠ g6 ∧ g5 ≠ g8 ∧ g5 ≠ g10 ∧ w.heap.size ≤ g5) := ⟨by omega, by omega, by omega, by omega⟩
  have T0 : Hid (TydAt g5 g6 g8 g10 k v who d l w w1) := ⟨⟨A, n, c, r5, h.below hb1, hn⟩, r6, r8, r10, hb1⟩
  have HSS := Lib.hid hs; have HLS := Lib.hid hs.len; have HZ := Lib.hid hz
  have hle := hs.le
  replace hw1 := Lib.hid hw1
  clear r5 r6 r8 r10 hb1 h hs hz hn
  go_enter Try.func19, Try.ntmps19
  go_upto_region 1 with fail
  rw [show (((w.alloc (cellRow k v (.slice A n c))).alloc (stampRow who)).alloc (dotRowT d)).alloc (cellRow 0 ⟨0, 0, ⟨#[]⟩⟩ nilS) = w1 from hw1.out.symm, show w.heap.size + 1 + 1 + 1 = g10 from hg10.symm, show w.heap.size + 1 + 1 = g8 from hg8.symm, show w.heap.size + 1 = g6 from hg6.symm, ← hg5]
  clear hw1
  replace hg5 := Lib.hid hg5; replace hg6 := Lib.hid hg6; replace hg8 := Lib.hid hg8; replace hg10 := Lib.hid hg10
  go_wp2_with fail
  go_loopw [11] (fun z wr => ∃ (j : Nat) (L : List P11), j ≤ m ∧ z = .int .i64 j ∧ Hid (typedL k v who ⟨d, i⟩ l ss = typedL k v who ⟨d, i⟩ L (ss.drop j)) ∧ Hid (TydAt g5 g6 g8 g10 k v who d L w wr)) (fun z _ => m - (intOf z).toNat)
  case atStart => exact ⟨0, l, Nat.zero_le _, rfl, by show _ = _; rw [List.drop_zero], T0⟩
  case round =>
    clear T0
    obtain ⟨j, L, hj, rfl, HE, HT⟩ := hrel
    by_cases hlt : j < m
    · obtain ⟨b, o, s, rfl, hb, hx, hld⟩ := HSS.out.str hlt
      have sc := hld wr HT.out.bel
      have hsz := HZ.out s (List.mem_of_getElem? hx)
      have HST := Lib.hid (typedL_step (k := k) (v := v) (w := who) (N := ⟨d, i⟩) (l := L) hx)
      obtain ⟨A1, m1, c1, R5, RL, hm1⟩ := HT.out.row
      obtain ⟨a0, a1, a2, a3, a4⟩ := cell_row5 R5
      obtain ⟨b0, b1, b2⟩ := stamp_at HT.out.r6
      obtain ⟨d0, d1⟩ := dot_rowT HT.out.r8
      have z1 : (0 : Int) ≤ (j : Int) := by omega
      have z2 : (j : Int) < (m : Int) := by omega
      have hc : ∀ (p : Addr) (y : Value) (W : World), Below wr.heap.size wr W → wr.cell? p = some y → W.cell? p = some y := fun p y W hb h2 => (hb.cell (World.block_lt_of_cell? _ _ h2)).trans h2
      by_cases hE : mayT k v L s.size who ⟨d, i⟩ = 0
      · obtain ⟨M, hM⟩ : ∃ M, Hid (m1 + s.size = M) := ⟨_, rfl⟩
        obtain ⟨L', hL'⟩ : ∃ L', Hid (typeL L s who ⟨d, i⟩ = L') := ⟨_, rfl⟩
        have hMb : Hid (M ≤ 2000) := by
          have h1 := mayT_ok.1 hE
          have h2 := RL.len
          have h3 := hM.out
          show _ ≤ _
          omega
        have TY : Hid (∀ W, Below wr.heap.size wr W → Calls Try.prog 20 #[cellV k v (.slice A1 m1 c1), .string s, who.agg, d.agg, .int .i64 i] W fun e w' => ∃ A' c', e = .returned (.tuple #[cellV k v (.slice A' M c'), .int .i64 0]) ∧ RdP w' A' M c' L' ∧ Below W.heap.size W w' ∧ ∀ a, A' = some a → W.heap.size ≤ a.block) := by
          intro W hW
          have := type_is k v A1 m1 c1 L s who d i W (RL.below hW) (by omega) hsz hE (m := M) hM.out (O := L') hL'.out
          exact this
        have HE2 : Hid (typedL k v who ⟨d, i⟩ l ss = typedL k v who ⟨d, i⟩ L' (ss.drop (j + 1))) := by
          show _ = _
          rw [HE.out, HST.out, if_pos hE, hL'.out]
        have K : Hid (∀ W, Below wr.heap.size wr W → W.cell? ⟨g5, 0, none⟩ = some (.int .i64 k) ∧ W.cell? ⟨g5, 1, none⟩ = some (.int .i64 v.k) ∧ W.cell? ⟨g5, 2, none⟩ = some (.int .i64 v.n) ∧ W.cell? ⟨g5, 3, none⟩ = some (.string v.s) ∧ W.cell? ⟨g5, 4, none⟩ = some (.slice A1 m1 c1) ∧ W.cell? ⟨g6, 0, none⟩ = some (.int .i64 who.t) ∧ W.cell? ⟨g6, 1, none⟩ = some (.int .i64 who.d) ∧ W.cell? ⟨g6, 2, none⟩ = some (.int .i64 who.q) ∧ W.cell? ⟨g8, 0, none⟩ = some (.int .i64 d.d) ∧ W.cell? ⟨g8, 1, none⟩ = some (.int .i64 d.s) ∧ W.cell? ⟨b, o + j, none⟩ = some (.string s)) := fun W hW => ⟨hc _ _ W hW a0, hc _ _ W hW a1, hc _ _ W hW a2, hc _ _ W hW a3, hc _ _ W hW a4, hc _ _ W hW b0, hc _ _ W hW b1, hc _ _ W hW b2, hc _ _ W hW d0, hc _ _ W hW d1, hc _ _ W hW sc⟩
        clear hE R5 RL hm1 HE HST hsz a0 a1 a2 a3 a4 b0 b1 b2 d0 d1 sc hld hx hb hc hM hL'
        go_upto_region 4 with fail
        go_cut [12, 13] from 20 to 31 (fun s12 s13 W => ∃ g A' c', s12 = .pointer (some ⟨g, 0, none⟩) ∧ s13 = .int .i64 0 ∧ Hid (W.heap[g]? = some (cellRow k v (.slice A' M c'))) ∧ Hid (RdP W A' M c' L') ∧ Hid (Below wr.heap.size wr W))
        case first =>
          go_region_held3 (fun W => W.cell? ⟨g5, 0, none⟩ = some (.int .i64 k) ∧ W.cell? ⟨g5, 1, none⟩ = some (.int .i64 v.k) ∧ W.cell? ⟨g5, 2, none⟩ = some (.int .i64 v.n) ∧ W.cell? ⟨g5, 3, none⟩ = some (.string v.s) ∧ W.cell? ⟨g5, 4, none⟩ = some (.slice A1 m1 c1) ∧ W.cell? ⟨g6, 0, none⟩ = some (.int .i64 who.t) ∧ W.cell? ⟨g6, 1, none⟩ = some (.int .i64 who.d) ∧ W.cell? ⟨g6, 2, none⟩ = some (.int .i64 who.q) ∧ W.cell? ⟨g8, 0, none⟩ = some (.int .i64 d.d) ∧ W.cell? ⟨g8, 1, none⟩ = some (.int .i64 d.s) ∧ W.cell? ⟨b, o + j, none⟩ = some (.string s))
            (first
              | (with_reducible refine K.out _ ?_; (repeat (first | with_reducible exact Below.refl _ _ | with_reducible refine below_new ?_ _ | with_reducible refine Below.drew ?_)); done)
              | (refine K.out _ ?_; (repeat (first | with_reducible exact bfr.out | with_reducible exact Below.refl _ _ | with_reducible refine below_new ?_ _ | with_reducible refine Below.drew ?_ | (refine Below.setCell ?_ (by show wr.heap.size ≤ _; first | exact Nat.le_refl _ | (dsimp only; omega)) _))); done))
            (first
              | (go_at_call 20
                 refine (TY.out _ ?hb).mono ?_
                 case hb =>
                   repeat (first | with_reducible exact Below.refl _ _ | with_reducible refine below_new ?_ _ | with_reducible refine Below.drew ?_)
                 rintro e wx ⟨A', c', rfl, hrd, bfx, hat⟩
                 have bfr : Hid (Below wr.heap.size wr wx) := below_then (by repeat (first | with_reducible exact Below.refl _ _ | with_reducible refine below_new ?_ _ | with_reducible refine Below.drew ?_)) bfx
                 replace hrd := Lib.hid hrd; replace hat := Lib.hid hat; replace bfx := Lib.hid bfx
                 first
                   | (refine use_row2 (g := wr.heap.size) (o := cellRow 0 zeroT nilS) bfx.out ?hrow (fun rr hlt => ?_)
                      case hrow =>
                        repeat (first | assumption | (with_reducible refine heap_at ?_; first | done | omega | (simp only [World.size_alloc]; omega)) | with_reducible refine heap_drew ?_ | (with_reducible refine heap_past ?_ ?_; focus (first | done | omega | (simp only [World.size_alloc]; omega))))
                        done
                      obtain ⟨k0, k1, k2, k3, k4⟩ := cell_row5 rr
                      have kf := frozen_row rr
                      have hne : Hid (∀ a, A' = some a → a.block ≠ wr.heap.size) := fun a ha => by have := hat.out a ha; simp only [World.size_alloc, World.size_drew] at this; omega
                      replace rr := Lib.hid rr
                      clear hlt)
                   | skip))
          all_goals
            go_wp2_with fail
            go_meet
            refine ⟨_, A', c', rfl, rfl, Lib.hid ?_, Lib.hid ?_, Lib.hid ?_⟩
            · first | with_reducible exact heap_alloc_new _ _ | exact set5 rr.out
            · first | with_reducible exact hrd.out.alloc _ | exact rdp_cell (rdp_cell (rdp_cell (rdp_cell (rdp_cell hrd.out _ hne.out _ _) _ hne.out _ _) _ hne.out _ _) _ hne.out _ _) _ hne.out _ _
            · show Below wr.heap.size wr _
              repeat (first | with_reducible exact bfr.out | with_reducible exact Below.refl _ _ | with_reducible refine below_new ?_ _ | with_reducible refine Below.drew ?_ | (refine Below.setCell ?_ (by show wr.heap.size ≤ _; first | exact Nat.le_refl _ | (dsimp only; omega)) _))
        case rest =>
        obtain ⟨g12, A2, c2, rfl, rfl, R12, RL2, BC⟩ := hcut
        have HT2 := Lib.hid (HT.out.below BC.out)
        clear HT BC
        obtain ⟨A1', m1', c1', R5, _, _⟩ := HT2.out.row
        have f5 := frozen_row R5
        obtain ⟨q0, q1, q2, q3, q4⟩ := cell_row5 R5
        obtain ⟨p0, p1, p2, p3, p4⟩ := cell_row5 R12.out
        have HT3 : Hid (TydAt g5 g6 g8 g10 k v who d L' w (((((wc.setCell ⟨g5, 0, none⟩ (.int .i64 k)).setCell ⟨g5, 1, none⟩ (.int .i64 v.k)).setCell ⟨g5, 2, none⟩ (.int .i64 v.n)).setCell ⟨g5, 3, none⟩ (.string v.s)).setCell ⟨g5, 4, none⟩ (.slice A2 M c2))) := by
          obtain ⟨x1, x2, x3, x4⟩ := HQ.out
          have oth : ∀ {kk : Nat} {ob : Obj} (x y z a b : Value), g5 ≠ kk → wc.heap[kk]? = some ob → (((((wc.setCell ⟨g5, 0, none⟩ x).setCell ⟨g5, 1, none⟩ y).setCell ⟨g5, 2, none⟩ z).setCell ⟨g5, 3, none⟩ a).setCell ⟨g5, 4, none⟩ b).heap[kk]? = some ob := by
            intro kk ob x y z a b hne hk
            rw [setCell_other (Ne.symm hne), setCell_other (Ne.symm hne), setCell_other (Ne.symm hne), setCell_other (Ne.symm hne), setCell_other (Ne.symm hne)]
            exact hk
          exact ⟨⟨A2, M, c2, set5 R5, rdp_set5 RL2.out R5 _ _ _ _ _, hMb.out⟩, oth _ _ _ _ _ x1 HT2.out.r6, oth _ _ _ _ _ x2 HT2.out.r8, oth _ _ _ _ _ x3 HT2.out.r10, below_set5 HT2.out.bel x4⟩
        clear HT2 R5 RL2 R12 hMb
        go_wp2_with fail
        exact ⟨⟨j + 1, L', by omega, by go_num, HE2, HT3⟩, by simp [intOf]; omega⟩
      · obtain ⟨er, her⟩ : ∃ er, Hid (mayT k v L s.size who ⟨d, i⟩ = er) := ⟨_, rfl⟩
        have TY : Hid (∀ W, Below wr.heap.size wr W → Calls Try.prog 20 #[cellV k v (.slice A1 m1 c1), .string s, who.agg, d.agg, .int .i64 i] W fun e w' => e = .returned (.tuple #[cellV 0 zeroT nilS, .int .i64 er]) ∧ Below W.heap.size W w') := by
          intro W hW
          refine (typeT_any k v A1 m1 c1 L s who d i W (RL.below hW) (by omega) hsz).mono ?_
          rintro e w' ⟨hb, ⟨_, h2⟩ | ⟨h1, _⟩⟩
          · rw [show typeE k v L s who ⟨d, i⟩ = er from her.out] at h2
            exact ⟨h2, hb⟩
          · exact absurd h1 hE
        have HE2 : Hid (typedL k v who ⟨d, i⟩ l ss = typedL k v who ⟨d, i⟩ L (ss.drop (j + 1))) := by
          show _ = _
          rw [HE.out, HST.out, if_neg hE]
        have er0 : (er == 0) = false := by
          rw [her.out] at hE; simpa using hE
        have K : Hid (∀ W, Below wr.heap.size wr W → W.cell? ⟨g5, 0, none⟩ = some (.int .i64 k) ∧ W.cell? ⟨g5, 1, none⟩ = some (.int .i64 v.k) ∧ W.cell? ⟨g5, 2, none⟩ = some (.int .i64 v.n) ∧ W.cell? ⟨g5, 3, none⟩ = some (.string v.s) ∧ W.cell? ⟨g5, 4, none⟩ = some (.slice A1 m1 c1) ∧ W.cell? ⟨g6, 0, none⟩ = some (.int .i64 who.t) ∧ W.cell? ⟨g6, 1, none⟩ = some (.int .i64 who.d) ∧ W.cell? ⟨g6, 2, none⟩ = some (.int .i64 who.q) ∧ W.cell? ⟨g8, 0, none⟩ = some (.int .i64 d.d) ∧ W.cell? ⟨g8, 1, none⟩ = some (.int .i64 d.s) ∧ W.cell? ⟨b, o + j, none⟩ = some (.string s)) := fun W hW => ⟨hc _ _ W hW a0, hc _ _ W hW a1, hc _ _ W hW a2, hc _ _ W hW a3, hc _ _ W hW a4, hc _ _ W hW b0, hc _ _ W hW b1, hc _ _ W hW b2, hc _ _ W hW d0, hc _ _ W hW d1, hc _ _ W hW sc⟩
        clear hE R5 RL hm1 HE HST hsz a0 a1 a2 a3 a4 b0 b1 b2 d0 d1 sc hld hx hb hc her
        go_upto_region 4 with fail
        go_cut [12, 13] from 20 to 31 (fun s12 s13 W => ∃ g, s12 = .pointer (some ⟨g, 0, none⟩) ∧ s13 = .int .i64 er ∧ Hid (Below wr.heap.size wr W))
        case first =>
          go_region_held3 (fun W => W.cell? ⟨g5, 0, none⟩ = some (.int .i64 k) ∧ W.cell? ⟨g5, 1, none⟩ = some (.int .i64 v.k) ∧ W.cell? ⟨g5, 2, none⟩ = some (.int .i64 v.n) ∧ W.cell? ⟨g5, 3, none⟩ = some (.string v.s) ∧ W.cell? ⟨g5, 4, none⟩ = some (.slice A1 m1 c1) ∧ W.cell? ⟨g6, 0, none⟩ = some (.int .i64 who.t) ∧ W.cell? ⟨g6, 1, none⟩ = some (.int .i64 who.d) ∧ W.cell? ⟨g6, 2, none⟩ = some (.int .i64 who.q) ∧ W.cell? ⟨g8, 0, none⟩ = some (.int .i64 d.d) ∧ W.cell? ⟨g8, 1, none⟩ = some (.int .i64 d.s) ∧ W.cell? ⟨b, o + j, none⟩ = some (.string s))
            (first
              | (with_reducible refine K.out _ ?_; (repeat (first | with_reducible exact Below.refl _ _ | with_reducible refine below_new ?_ _ | with_reducible refine Below.drew ?_)); done)
              | (refine K.out _ ?_; (repeat (first | with_reducible exact bfr.out | with_reducible exact Below.refl _ _ | with_reducible refine below_new ?_ _ | with_reducible refine Below.drew ?_ | (refine Below.setCell ?_ (by show wr.heap.size ≤ _; first | exact Nat.le_refl _ | (dsimp only; omega)) _))); done))
            (first
              | (go_at_call 20
                 refine (TY.out _ ?hb).mono ?_
                 case hb =>
                   repeat (first | with_reducible exact Below.refl _ _ | with_reducible refine below_new ?_ _ | with_reducible refine Below.drew ?_)
                 rintro e wx ⟨rfl, bfx⟩
                 have bfr : Hid (Below wr.heap.size wr wx) := below_then (by repeat (first | with_reducible exact Below.refl _ _ | with_reducible refine below_new ?_ _ | with_reducible refine Below.drew ?_)) bfx
                 replace bfx := Lib.hid bfx
                 first
                   | (refine use_row2 (g := wr.heap.size) (o := cellRow 0 zeroT nilS) bfx.out ?hrow (fun rr hlt => ?_)
                      case hrow =>
                        repeat (first | assumption | (with_reducible refine heap_at ?_; first | done | omega | (simp only [World.size_alloc]; omega)) | with_reducible refine heap_drew ?_ | (with_reducible refine heap_past ?_ ?_; focus (first | done | omega | (simp only [World.size_alloc]; omega))))
                        done
                      obtain ⟨k0, k1, k2, k3, k4⟩ := cell_row5 rr
                      have kf := frozen_row rr
                      replace rr := Lib.hid rr
                      clear hlt)
                   | skip))
          all_goals
            go_wp2_with fail
            go_meet
            refine ⟨_, rfl, rfl, Lib.hid ?_⟩
            show Below wr.heap.size wr _
            repeat (first | with_reducible exact bfr.out | with_reducible exact Below.refl _ _ | with_reducible refine below_new ?_ _ | with_reducible refine Below.drew ?_ | (refine Below.setCell ?_ (by show wr.heap.size ≤ _; first | exact Nat.le_refl _ | (dsimp only; omega)) _))
        case rest =>
        obtain ⟨g12, rfl, rfl, BC⟩ := hcut
        have HT2 := Lib.hid (HT.out.below BC.out)
        clear HT BC
        go_wp2_with fail
        exact ⟨⟨j + 1, L, by omega, by go_num, HE2, HT2⟩, by simp [intOf]; omega⟩
    · have hfin : Hid (typedL k v who ⟨d, i⟩ l ss = L) := by
        show _ = _
        rw [HE.out, List.drop_eq_nil_of_le (by rw [HLS.out]; omega), typedL]
      obtain ⟨A1, m1, c1, R5, RL, hm1⟩ := HT.out.row
      obtain ⟨a0, a1, a2, a3, a4⟩ := cell_row5 R5
      obtain ⟨q0, q1, q2, q3, q4⟩ := cell_row5 HT.out.r10
      have f10 := frozen_row HT.out.r10
      have HR10 := Lib.hid HT.out.r10
      have HB := Lib.hid HT.out.bel
      have RLH := Lib.hid RL
      clear HT RL
      go_wp2_with fail
      refine bodyPost_ret (v := cellV k v (.slice A1 m1 c1)) (results_cell_row rfl _ _ g10 26 _ (0, 0) _ rfl (set5 HR10.out) Try.underlying26 rfl (by kernel_rfl)) rfl ?_
      rw [hfin.out]
      exact ⟨_, _, _, rfl, rdp_set5 RLH.out HR10.out _ _ _ _ _, below_set5 HB.out (by have := hg10.out; omega)⟩
end Go.Proofs.Ytlgpijdemfccaaa

namespace Go.Proofs.Ytlgpijdemfccaaa
open Go.RowKit Go.Lib
theorem typedL_few {k : Int} {v : V3} {w : S3} {N : N3} {ss : List ByteArray} {l : List P11} (h : rightT10 k v l = 0) (hb : l.length + szL ss ≤ 2000) : (typedL k v w N l ss).length ≤ l.length + szL ss := by
  obtain ⟨X, h1, _, _, h4⟩ := typed_news (w := w) (N := N) ss l l h h ⟨rfl, rfl, rfl⟩ hb hb
  have h5 := h1.length_eq
  rw [List.length_append] at h5
  omega
theorem szL_ten : ∀ (ss : List ByteArray), (∀ y ∈ ss, y.size ≤ 10) → szL ss ≤ 10 * ss.length
  | [], _ => by simp [szL]
  | s :: ss, h => by
    have h1 := szL_ten ss (fun y hy => h y (List.mem_cons_of_mem _ hy))
    have h2 := h s List.mem_cons_self
    have e : szL (s :: ss) = s.size + szL ss := by simp [szL]
    rw [e, List.length_cons]
    omega
theorem few_strs {ss : List ByteArray} {n : Nat} (hl : ss.length = n) (hn : n ≤ 4) (h : ∀ j, j < n → ∀ y : ByteArray, ss[j]? = some y → y.size ≤ 10) : szL ss ≤ 40 ∧ ∀ y ∈ ss, y.size ≤ 140737488355328 := by
  have h1 : ∀ y ∈ ss, y.size ≤ 10 := by
    intro y hy
    obtain ⟨j, hj⟩ := List.getElem?_of_mem hy
    exact h j (by have := (List.getElem?_eq_some_iff.1 hj).1; omega) y hj
  have h2 := szL_ten ss h1
  exact ⟨by omega, fun y hy => Nat.le_trans (h1 y hy) (by decide)⟩
/-- what the law's two ways come to, and how long -/
theorem ways10 {kd : Int} {u : V3} {l : List P11} {a b : S3} {P Q : N3} {ss tt : List ByteArray} (h : rightT10 kd u l = 0) (hab : dotS a ≠ dotS b) (hP : P.d ≠ dotS b) (hQ : Q.d ≠ dotS a) (hl : l.length ≤ 40) (hs : szL ss ≤ 40) (ht : szL tt ≤ 40) :
    ∃ L1 L2 L3 L4 L5 L6 L7, Hid (typedL kd u a P l ss = L1) ∧ Hid (eraseL L1 P = L2) ∧ Hid (typedL kd u b Q L2 tt = L3) ∧ Hid (eraseL L3 Q = L4) ∧ Hid (typedL kd u b Q l tt = L5) ∧ Hid (eraseL L5 Q = L6) ∧ Hid (typedL kd u a P L6 ss = L7) ∧ Hid (eraseL L7 P = L4) ∧ Hid (rightT10 kd u L4 = 0) ∧
      Hid (L1.length ≤ 200 ∧ L2.length ≤ 200 ∧ L3.length ≤ 200 ∧ L4.length ≤ 200 ∧ L5.length ≤ 200 ∧ L6.length ≤ 200 ∧ L7.length ≤ 200) := by
  obtain ⟨m1, m2⟩ := meets10 h hab hP hQ (ss := ss) (tt := tt) (by omega)
  have el : ∀ (L : List P11) (N : N3), (eraseL L N).length = L.length := fun L N => List.length_map _
  have b1 := typedL_few (w := a) (N := P) (ss := ss) h (by omega)
  have r1 := er_right (typed_right (w := a) (N := P) ss l h) P
  have b3 := typedL_few (w := b) (N := Q) (ss := tt) r1 (by rw [el]; omega)
  have b5 := typedL_few (w := b) (N := Q) (ss := tt) h (by omega)
  have r5 := er_right (typed_right (w := b) (N := Q) tt l h) Q
  have b7 := typedL_few (w := a) (N := P) (ss := ss) r5 (by rw [el]; omega)
  rw [el] at b3 b7
  refine ⟨_, _, _, _, _, _, _, Lib.hid rfl, Lib.hid rfl, Lib.hid rfl, Lib.hid rfl, Lib.hid rfl, Lib.hid rfl, Lib.hid rfl, Lib.hid m1.symm, Lib.hid m2, Lib.hid ?_⟩
  simp only [el]
  omega
end Go.Proofs.Ytlgpijdemfccaaa

