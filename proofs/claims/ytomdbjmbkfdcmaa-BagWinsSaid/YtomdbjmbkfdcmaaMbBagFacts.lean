/- Layer 9, in plain mathematics: what the laws ask of puts and takes, and how many numbers there are. -/
import Derived.Test.YtomdbjmbkfdcmaaMbBagAl
namespace Go.Proofs.Ytomdbjmbkfdcmaa
set_option maxRecDepth 100000
open Srt

theorem rightS_iff {k : Int} {v : V3} {l : List P11} : rightS k v l = true ↔ (k = 3 ∧ v = zeroV) ∧ RightB l := by simp [rightS]
theorem rightS_filter {k : Int} {v : V3} {l : List P11} (h : rightS k v l = true) (f : P11 → Bool) : rightS k v (l.filter f) = true := by
  rw [rightS_iff] at h ⊢; exact ⟨h.1, h.2.filter f⟩
theorem in_putB {l : List P11} {s : Sp} {p : P11} : p ∈ putB l s ↔ p ∈ l ∨ (inB l s = false ∧ p = partB s) := by
  unfold putB
  cases h : inB l s with
  | true => simp
  | false => rw [if_neg (by simp), insB_mem]; simp
theorem hasB_putB (l : List P11) (s : Sp) (z : Int) : hasB (putB l s) z = (hasB l z || decide (s.n = z)) := by
  rw [Bool.eq_iff_iff, Bool.or_eq_true, hasB_iff, hasB_iff, decide_eq_true_iff]
  constructor
  · rintro ⟨p, hp, hz⟩
    rcases in_putB.1 hp with h | ⟨_, rfl⟩
    · exact .inl ⟨p, h, hz⟩
    · exact .inr hz
  · rintro (⟨p, hp, hz⟩ | hz)
    · exact ⟨p, in_putB.2 (.inl hp), hz⟩
    · cases h : inB l s with
      | true =>
        obtain ⟨p, hp, he⟩ := (inB_iff _ _).1 h
        exact ⟨p, in_putB.2 (.inl hp), by rw [← hz, ← he]; rfl⟩
      | false => exact ⟨partB s, in_putB.2 (.inr ⟨h, rfl⟩), hz⟩
theorem inB_putB (l : List P11) (s : Sp) : inB (putB l s) s = true := by
  cases h : inB l s with
  | true => rw [putB, if_pos h]; exact h
  | false => exact (inB_iff _ _).2 ⟨partB s, in_putB.2 (.inr ⟨h, rfl⟩), rfl⟩
theorem putB_there {l : List P11} {s : Sp} (h : inB l s = true) : putB l s = l := by unfold putB; exact if_pos h
theorem putB_twice (l : List P11) (s : Sp) : putB (putB l s) s = putB l s := putB_there (inB_putB l s)
theorem putB_len (l : List P11) (s : Sp) : (putB l s).length = l.length ∨ (putB l s).length = l.length + 1 := by
  unfold putB
  split
  · exact .inl rfl
  · exact .inr (insB_len _ _)
theorem putB_rise {l : List P11} {s : Sp} (h : RiseB l) : RiseB (putB l s) := by
  cases hi : inB l s with
  | true => rw [putB_there hi]; exact h
  | false =>
    unfold putB
    rw [if_neg (by rw [hi]; decide)]
    exact h.ins (fun p hp => by rw [spP_partB]; exact (inB_no _ _).1 hi p hp)

/-- does a number stay, of which one knows -/
def staysB (l : List P11) (n : Int) (d : D2) (kn : List Int) : Bool := l.any fun p => decide (p.v.n = n) && (!decide (p.d = d) && !knowsV kn p.d)
theorem in_takeB {l : List P11} {n : Int} {d : D2} {kn : List Int} {p : P11} : p ∈ takeB l n d kn ↔ p ∈ l ∧ leavesB n d kn p = true := List.mem_filter
theorem hasB_take_self (l : List P11) (n : Int) (d : D2) (kn : List Int) : hasB (takeB l n d kn) n = staysB l n d kn := by
  rw [Bool.eq_iff_iff, hasB_iff]
  simp only [staysB, List.any_eq_true, in_takeB]
  constructor
  · rintro ⟨p, ⟨hp, hl⟩, rfl⟩
    exact ⟨p, hp, by simpa [leavesB] using hl⟩
  · rintro ⟨p, hp, h⟩
    rw [Bool.and_eq_true, decide_eq_true_iff] at h
    exact ⟨p, ⟨hp, by rw [leavesB, h.2]; simp⟩, h.1⟩
theorem hasB_take_other (l : List P11) {n z : Int} (d : D2) (kn : List Int) (h : ¬ n = z) : hasB (takeB l n d kn) z = hasB l z := by
  rw [Bool.eq_iff_iff, hasB_iff, hasB_iff]
  constructor
  · rintro ⟨p, hp, hz⟩; exact ⟨p, (in_takeB.1 hp).1, hz⟩
  · rintro ⟨p, hp, hz⟩; exact ⟨p, in_takeB.2 ⟨hp, by simp [leavesB, hz, Ne.symm h]⟩, hz⟩

theorem stays_step {l : List P11} {j : Nat} {x : P11} (hx : l[j]? = some x) (n : Int) (d : D2) (kn : List Int) :
    staysB (l.take (j + 1)) n d kn = (staysB (l.take j) n d kn || (decide (x.v.n = n) && (!decide (x.d = d) && !knowsV kn x.d))) := by
  rw [staysB, staysB, List.take_add_one, hx, List.any_append]; simp
theorem leaves_of {n m : Int} {d e : D2} {kn : List Int} (hde : ¬ d = e) (hk : ¬ (n = m ∧ knowsV kn d = true)) {p : P11} (hp : spP p = ⟨n, d⟩) : leavesB m e kn p = true := by
  have h1 : p.v.n = n := congrArg Sp.n hp
  have h2 : p.d = d := congrArg Sp.d hp
  simp only [leavesB, h1, h2]
  by_cases h : n = m
  · have : knowsV kn d = false := by simpa using fun h3 => hk ⟨h, h3⟩
    simp [h, hde, this]
  · simp [h]
theorem wins {l : List P11} (hr : RiseB l) {n m : Int} {d e : D2} {kn : List Int} (hde : ¬ d = e) (hk : ¬ (n = m ∧ knowsV kn d = true)) :
    takeB (putB l ⟨n, d⟩) m e kn = putB (takeB l m e kn) ⟨n, d⟩ := by
  have hin : inB (takeB l m e kn) ⟨n, d⟩ = inB l ⟨n, d⟩ := by
    rw [Bool.eq_iff_iff, inB_iff, inB_iff]
    constructor
    · rintro ⟨p, hp, h⟩; exact ⟨p, (in_takeB.1 hp).1, h⟩
    · rintro ⟨p, hp, h⟩; exact ⟨p, in_takeB.2 ⟨hp, leaves_of hde hk h⟩, h⟩
  refine RiseB.eq ((putB_rise hr).filter _) (putB_rise (hr.filter _)) fun p => ?_
  show p ∈ takeB _ _ _ _ ↔ p ∈ putB (takeB _ _ _ _) _
  rw [in_takeB, in_putB, in_putB, in_takeB, hin]
  constructor
  · rintro ⟨h1 | ⟨h1, rfl⟩, h2⟩
    · exact .inl ⟨h1, h2⟩
    · exact .inr ⟨h1, rfl⟩
  · rintro (⟨h1, h2⟩ | ⟨h1, rfl⟩)
    · exact ⟨.inl h1, h2⟩
    · exact ⟨.inr ⟨h1, rfl⟩, leaves_of hde hk (spP_partB _)⟩
theorem wins_has {l : List P11} (hr : RiseB l) {n m : Int} {d e : D2} {kn : List Int} (hde : ¬ d = e) (hk : ¬ (n = m ∧ knowsV kn d = true)) :
    hasB (takeB (putB l ⟨n, d⟩) m e kn) n = true := by
  rw [wins hr hde hk, hasB_putB]; simp
theorem wins_not (l : List P11) {n : Int} {d e : D2} {kn : List Int} (hk : knowsV kn d = true) :
    dotIn ((takeB (putB l ⟨n, d⟩) n e kn).filter fun p => decide (p.v.n = n)) d = false := by
  rw [dotIn, List.any_eq_false]
  intro p hp
  rw [List.mem_filter, in_takeB, decide_eq_true_iff] at hp
  obtain ⟨⟨_, h1⟩, h2⟩ := hp
  rw [decide_eq_true_iff]
  intro h3
  simp [leavesB, h2, h3, hk] at h1

/-- of a weakly rising row the compacted one: strictly rising, of the same members -/
theorem compact_sorted {zs : List Int} (h : zs.Pairwise (· ≤ ·)) : ∀ m, m ≤ zs.length → (Lib.compactUpTo zs.toArray m).Pairwise (· < ·) ∧ ∀ z, z ∈ Lib.compactUpTo zs.toArray m ↔ z ∈ zs.take m
  | 0, _ => by simp [Lib.compactUpTo]
  | m + 1, hm => by
    obtain ⟨h1, h2⟩ := compact_sorted h m (by omega)
    have hd : ∀ j (hj : j < zs.length), zs.toArray[j]! = zs[j] := fun j hj => by simp [hj]
    rw [Lib.compactUpTo_succ, hd m (by omega)]
    have ht : zs.take (m + 1) = zs.take m ++ [zs[m]'(by omega)] := by rw [List.take_add_one, List.getElem?_eq_getElem (by omega)]; rfl
    by_cases hk : m = 0 ∨ zs[m]'(by omega) ≠ zs[m - 1]'(by omega)
    · have hke : Lib.keeps zs.toArray m = true := by
        unfold Lib.keeps
        rw [hd m (by omega), hd (m - 1) (by omega)]
        exact decide_eq_true hk
      rw [if_pos hke, ht]
      refine ⟨List.pairwise_append.2 ⟨h1, List.pairwise_singleton _ _, fun a ha b hb => ?_⟩, fun z => by rw [List.mem_append, List.mem_append, h2]⟩
      rw [List.mem_singleton] at hb
      subst hb
      obtain ⟨i, hi, rfl⟩ := List.getElem_of_mem ((h2 a).1 ha)
      rw [List.length_take] at hi
      rw [List.getElem_take]
      have hne := hk.resolve_left (by omega)
      have l1 : zs[m - 1]'(by omega) ≤ zs[m]'(by omega) := List.pairwise_iff_getElem.1 h (m - 1) m (by omega) (by omega) (by omega)
      have l2 : zs[i]'(by omega) ≤ zs[m - 1]'(by omega) := by
        rcases Nat.lt_or_ge i (m - 1) with h3 | h3
        · exact List.pairwise_iff_getElem.1 h i (m - 1) (by omega) (by omega) h3
        · have : i = m - 1 := by omega
          subst this
          exact Int.le_refl _
      omega
    · have hk2 : m ≠ 0 ∧ zs[m]'(by omega) = zs[m - 1]'(by omega) := by
        constructor
        · exact fun e => hk (.inl e)
        · exact Decidable.byContradiction fun e => hk (.inr e)
      have hke : Lib.keeps zs.toArray m = false := by
        unfold Lib.keeps
        rw [hd m (by omega), hd (m - 1) (by omega)]
        exact decide_eq_false hk
      rw [if_neg (by rw [hke]; decide), List.append_nil, ht]
      refine ⟨h1, fun z => ?_⟩
      rw [h2, List.mem_append, List.mem_singleton]
      refine ⟨.inl, ?_⟩
      rintro (h3 | rfl)
      · exact h3
      · rw [hk2.2]
        exact List.mem_iff_getElem.2 ⟨m - 1, by rw [List.length_take]; omega, by rw [List.getElem_take]⟩
theorem srtI_sorted (l : List Int) : (srtI l).Pairwise (· ≤ ·) := by
  have := List.pairwise_mergeSort (le := fun x y : Int => decide (x ≤ y)) (fun a b c h1 h2 => by simp at *; omega) (fun a b => by simp; omega) l
  exact this.imp (fun h => by simpa using h)
theorem numsB_rise (l : List P11) : (numsB l).Pairwise (· < ·) := (compact_sorted (srtI_sorted _) _ (Nat.le_refl _)).1
theorem numsB_mem (l : List P11) (z : Int) : z ∈ numsB l ↔ hasB l z = true := by
  have h := (compact_sorted (srtI_sorted (l.map numOf)) _ (Nat.le_refl _)).2 z
  rw [List.take_length, srtI, (List.mergeSort_perm _ _).mem_iff] at h
  rw [hasB_map, decide_eq_true_iff, ← h]
  rfl
theorem numsB_nodup (l : List P11) : (numsB l).Nodup := (numsB_rise l).imp (fun h => by omega)
theorem nums_same {a b : List P11} (h : ∀ z, hasB a z = hasB b z) : (numsB a).length = (numsB b).length :=
  ((List.perm_ext_iff_of_nodup (numsB_nodup a) (numsB_nodup b)).2 fun z => by rw [numsB_mem, numsB_mem, h]).length_eq
theorem nums_more {a b : List P11} {n : Int} (hn : hasB b n = false) (h : ∀ z, hasB a z = (hasB b z || decide (n = z))) : (numsB a).length = (numsB b).length + 1 := by
  have hnd : (n :: numsB b).Nodup := List.nodup_cons.2 ⟨fun h2 => (by rw [numsB_mem, hn] at h2; cases h2), numsB_nodup b⟩
  have := ((List.perm_ext_iff_of_nodup (numsB_nodup a) hnd).2 fun z => by
    rw [numsB_mem, h, List.mem_cons, numsB_mem, Bool.or_eq_true, decide_eq_true_iff]
    constructor
    · rintro (h2 | h2)
      · exact .inr h2
      · exact .inl h2.symm
    · rintro (h2 | h2)
      · exact .inr h2.symm
      · exact .inl h2).length_eq
  simpa using this
theorem numsB_le (l : List P11) : (numsB l).length ≤ l.length := by
  have := Lib.compact_length_le (srtI (l.map numOf))
  rw [srtI_len, List.length_map] at this
  exact this
theorem counts_put (l : List P11) (n : Int) (d : D2) : (numsB (putB l ⟨n, d⟩)).length = (numsB l).length + (if hasB l n = true then 0 else 1) := by
  cases h : hasB l n with
  | true =>
    rw [if_pos rfl]
    exact nums_same fun z => by
      rw [hasB_putB]
      by_cases hz : n = z
      · subst hz; rw [h]; rfl
      · simp [hz]
  | false =>
    rw [if_neg (by decide)]
    exact nums_more h fun z => hasB_putB l ⟨n, d⟩ z
theorem counts_take {l : List P11} {n : Int} {d : D2} {kn : List Int} (hk : ∀ p ∈ l, knowsV kn p.d = true) :
    (numsB (putB l ⟨n, d⟩)).length = (numsB (takeB (putB l ⟨n, d⟩) n d kn)).length + 1 := by
  refine nums_more (n := n) ?_ fun z => ?_
  · rw [hasB_take_self, staysB, List.any_eq_false]
    intro p hp
    rcases in_putB.1 hp with h | ⟨_, rfl⟩
    · rw [hk p h]; simp
    · simp [partB, part0]
  · by_cases hz : n = z
    · subst hz; rw [hasB_putB]; simp
    · rw [hasB_take_other _ _ _ hz]; simp [hz]

/-- a vector that knows all of these -/
def AllK (kn : List Int) (l : List P11) : Prop := kn.length ≤ 64 ∧ ∀ p ∈ l, knowsV kn p.d = true
theorem allK_nil {l : List P11} : AllK [] (l.take 0) := ⟨by simp, by simp⟩
theorem allK_step {kn : List Int} {l : List P11} {j : Nat} {x : P11} (h : AllK kn (l.take j)) (hx : l[j]? = some x) (ho : okB x = true) :
    kn.length ≤ 64 ∧ AllK (setV kn x.d.d (max (ofV kn x.d.d) x.d.s)) (l.take (j + 1)) := by
  simp only [okB, Bool.and_eq_true, decide_eq_true_iff] at ho
  obtain ⟨⟨⟨⟨⟨⟨o1, o2⟩, o3⟩, _⟩, _⟩, _⟩, _⟩ := ho
  refine ⟨h.1, ?_, fun p hp => ?_⟩
  · have := setV_len kn x.d.d (max (ofV kn x.d.d) x.d.s)
    have := h.1
    omega
  · rw [List.take_add_one, hx] at hp
    have hk : ∀ q : D2, knowsV (setV kn x.d.d (max (ofV kn x.d.d) x.d.s)) q = true ↔ 1 ≤ q.s ∧ q.s ≤ if q.d = x.d.d ∧ 1 ≤ q.d ∧ q.d ≤ 64 then max (ofV kn x.d.d) x.d.s else ofV kn q.d := by
      intro q; rw [knowsV, hasV, ofV_set]; simp
    rw [hk]
    rcases List.mem_append.1 hp with hp | hp
    · have h2 := h.2 p hp
      rw [knowsV, hasV, Bool.and_eq_true, decide_eq_true_iff, decide_eq_true_iff] at h2
      refine ⟨h2.1, ?_⟩
      split
      · rename_i hc; rw [hc.1] at h2; omega
      · exact h2.2
    · simp at hp
      subst hp
      refine ⟨o3, ?_⟩
      rw [if_pos ⟨rfl, o1, o2⟩]; omega
end Go.Proofs.Ytomdbjmbkfdcmaa

