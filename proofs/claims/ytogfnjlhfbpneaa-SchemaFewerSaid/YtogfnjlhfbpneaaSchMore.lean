/- Layer 11, in plain mathematics: a table more, a table less bound. -/
import Derived.Test.YtogfnjlhfbpneaaSchLaw
namespace Go.Proofs.Ytogfnjlhfbpneaa
set_option maxRecDepth 100000
open Go.RowKit

theorem fk_mono {n : Nat} {cols : List C4} {l : List F3} {i : Nat} (h : fkErr n cols l i = 0) : fkErr (n + 1) cols l i = 0 := by
  unfold fkErr at *
  split at h
  · exact absurd h (by decide)
  · rename_i h1
    rw [if_neg (by simp only [not_or] at *; exact ⟨h1.1, h1.2.1, by omega⟩)]
    exact h
theorem ask_mono {n : Nat} {a : List T6} {t : T6} {q : Nat} (h : ask1 n a t q = 0) : ask1 (n + 1) a t q = 0 := by
  match q with
  | 0 => exact h
  | 1 => exact h
  | 2 => exact h
  | 3 => exact h
  | 4 => exact h
  | 5 => exact (firstE_zero _ _).2 fun i hi => fk_mono ((firstE_zero _ _).1 h i hi)
  | 6 => exact h
  | q + 7 => exact h
theorem tab_mono {n : Nat} {a : List T6} {t : T6} (h : tabErr n a t = 0) : tabErr (n + 1) a t = 0 :=
  (firstE_zero _ _).2 fun q hq => ask_mono ((firstE_zero _ _).1 h q hq)
theorem right_app {l : List T6} (h : rightE l = 0) (hn : l.length < 16) (t : T6) : rightE (l ++ [t]) = tabErr (l.length + 1) l t := by
  have hl : (l ++ [t]).length = l.length + 1 := by simp
  obtain ⟨h1, h2, h3⟩ := rightE_tab h
  rw [rightE, hl, if_neg (by omega), firstE_append l.length 1]
  · have e1 : (l ++ [t]).take (l.length + 0) = l := by simp
    have e2 : (l ++ [t]).getD (l.length + 0) t60 = t := by simp [List.getD]
    simp only [firstE, e1, e2]
    split <;> simp_all
  · intro i hi
    have e1 : (l ++ [t]).take i = l.take i := by rw [List.take_append_of_le_length (by omega)]
    have e2 : (l ++ [t]).getD i t60 = l[i] := by simp [List.getD, List.getElem?_append_left hi, List.getElem?_eq_getElem hi]
    rw [e1, e2]
    exact tab_mono (h3 i _ (List.getElem?_eq_getElem hi))
theorem right_one11 (t : T6) : rightE [t] = tabErr 1 [] t := by
  have e : rightE [t] = firstE 1 (fun i => tabErr 1 ([t].take i) ([t].getD i t60)) := by rw [rightE, if_neg (by simp)]; rfl
  rw [e]
  simp only [firstE]
  show (if tabErr 1 [] t = 0 then 0 else tabErr 1 [] t) = _
  split
  · rename_i h0; exact h0.symm
  · rfl
theorem parts_free {t : T6} (h : t.nf = 0) (a b : Nat) : partsErr a t = partsErr b t := by
  unfold partsErr
  refine firstE_ext 5 _ _ fun q hq => ?_
  match q, hq with
  | 0, _ => rfl
  | 1, _ => rfl
  | 2, _ => rfl
  | 3, _ =>
    show firstE t.nf _ = firstE t.nf _
    rw [h]; rfl
  | 4, _ => rfl
  | q + 5, hq => omega
theorem tab_other {n m : Nat} {l : List T6} {t : T6} (hf : t.nf = 0) (h : hasN T6.nm l t.nm = false) : tabErr n l t = tabErr m [] t := by
  rw [tabErr_eq, tabErr_eq, parts_free hf n m, nameErr, nameErr, h]
  rfl
theorem tab_there {n m : Nat} {l : List T6} {t : T6} (h : hasN T6.nm l t.nm = true) (h0 : tabErr m [] t = 0) : tabErr n l t = 5 := by
  have hz := (tabErr_name h0).1
  rw [tabErr_eq, nameErr, hz, h]
  rfl

/-- the same names stand ahead: the same is amiss -/
theorem tab_names {n : Nat} {a b : List T6} {t : T6} (h : a.map T6.nm = b.map T6.nm) : tabErr n a t = tabErr n b t := by
  have : hasN T6.nm a t.nm = hasN T6.nm b t.nm := by
    have e : ∀ l : List T6, hasN T6.nm l t.nm = (l.map T6.nm).any (fun s => decide (s = t.nm)) := fun l => by simp [hasN, List.any_map, Function.comp_def]
    rw [e, e, h]
  rw [tabErr_eq, tabErr_eq, nameErr, nameErr, this]
/-- a table of the same columns, with nothing else -/
def bareT (t : T6) : T6 := ⟨t.nm, t.ca, t.nc, t.cc, t.cols, none, 0, 0, [], none, 0, 0, none, 0, 0, [], none, 0, 0, []⟩
theorem bare_tab {n : Nat} {a : List T6} {t : T6} (h : tabErr n a t = 0) : tabErr n a (bareT t) = 0 := by
  have hn : nameErr a t.nm = 0 := tabErr_ask h 0 (by decide) 0 (by simp [askE])
  have hs := tabErr_size h
  refine (firstE_zero _ _).2 fun q hq => (firstE_zero _ _).2 fun i hi => ?_
  match q, hq, hi with
  | 0, _, _ => exact hn
  | 1, _, _ =>
    show sizeErr (bareT t) = 0
    rw [sizeErr, if_neg]
    show ¬ (t.nc = 0 ∨ 16 < t.nc ∨ 16 < 0 ∨ 16 < 0 ∨ 16 < 0 ∨ 16 < 0)
    omega
  | 2, _, hi => exact tabErr_ask h 2 (by decide) i hi
  | 3, _, _ => exact tabErr_ask h 3 (by decide) 0 (by simp [askE])
  | 4, _, hi => exact absurd hi (Nat.not_lt_zero _)
  | 5, _, hi => exact absurd hi (Nat.not_lt_zero _)
  | 6, _, hi => exact absurd hi (Nat.not_lt_zero _)
  | q + 7, hq, _ => omega
/-- with one table bare -/
def lessL (l : List T6) (k : Nat) (t : T6) : List T6 := (l.take k ++ [bareT t]) ++ l.drop (k + 1)
theorem less_set {l : List T6} {k : Nat} {t : T6} (ht : l[k]? = some t) : lessL l k t = l.set k (bareT t) := by
  have hk := (List.getElem?_eq_some_iff.1 ht).1
  rw [List.set_eq_take_append_cons_drop, if_pos hk, lessL]
  simp
theorem less_len {l : List T6} {k : Nat} {t : T6} (ht : l[k]? = some t) : (lessL l k t).length = l.length := by rw [less_set ht, List.length_set]
theorem less_names {l : List T6} {k : Nat} {t : T6} (ht : l[k]? = some t) : (lessL l k t).map T6.nm = l.map T6.nm := by
  obtain ⟨hk, e⟩ := List.getElem?_eq_some_iff.1 ht
  rw [less_set ht, List.map_set]
  have : (bareT t).nm = (l.map T6.nm)[k]'(by simpa using hk) := by simp [e, bareT]
  rw [this, List.set_getElem_self]
theorem less_right {l : List T6} {k : Nat} {t : T6} (h : rightE l = 0) (ht : l[k]? = some t) : rightE (lessL l k t) = 0 := by
  obtain ⟨h1, h2, h3⟩ := rightE_tab h
  have hk := (List.getElem?_eq_some_iff.1 ht).1
  rw [rightE, less_len ht, if_neg (by omega), firstE_zero]
  intro i hi
  have hm : ((lessL l k t).take i).map T6.nm = (l.take i).map T6.nm := by rw [List.map_take, List.map_take, less_names ht]
  rw [tab_names hm]
  by_cases hik : i = k
  · subst hik
    have : (lessL l i t).getD i t60 = bareT t := by rw [less_set ht, List.getD, List.getElem?_set_self hi]; rfl
    rw [this]
    exact bare_tab (h3 i t ht)
  · have : (lessL l k t).getD i t60 = l[i] := by rw [less_set ht, List.getD, List.getElem?_set_ne (fun e => hik e.symm), List.getElem?_eq_getElem hi]; rfl
    rw [this]
    exact h3 i _ (List.getElem?_eq_getElem hi)
theorem less_twice {l : List T6} {k : Nat} {t : T6} (h : rightE l = 0) (ht : l[k]? = some t) (hn : l.length < 16) : rightE (lessL l k t ++ [bareT t]) = 5 := by
  have hr := less_right h ht
  have hb := bare_tab ((rightE_tab h).2.2 k t ht)
  rw [right_app hr (by rw [less_len ht]; exact hn)]
  have hz := (tabErr_name hb).1
  have hh : hasN T6.nm (lessL l k t) (bareT t).nm = true := by
    rw [hasN, List.any_eq_true]
    exact ⟨bareT t, by unfold lessL; simp, by simp⟩
  rw [tabErr_eq, nameErr, hz, hh]
  rfl
theorem less_great {l : List T6} {k : Nat} {t : T6} (ht : l[k]? = some t) (hn : l.length = 16) : rightE (lessL l k t ++ [bareT t]) = 2 := by
  rw [rightE, if_pos (.inr (by rw [List.length_append, less_len ht, hn]; simp))]
end Go.Proofs.Ytogfnjlhfbpneaa
