/- Several texts laid together: BasLawM, BasRef2, BasIs, BagAl, BagOpen. -/
import Derived.Test.YtfljhnalmiibeaaGreatMbBasAlM
import Derived.Test.YtfljhnalmiibeaaGreatMbSchRefT
import Derived.Test.YtfljhnalmiibeaaGreatMbBasRef
import Derived.Test.YtfljhnalmiibeaaGreatMbBagRight
import Derived.RangeFuncBox
import Derived.Maps.AppendAt
import Derived.Test.YtfljhnalmiibeaaGreatMbBasMath
import Derived.Test.YtfljhnalmiibeaaGreatMbMulCmp
import Derived.Deep.RegionHeld3
import Derived.Laws.NewBlocks
import Derived.Test.YtfljhnalmiibeaaGreatMbValMath
import Derived.Shelf.SlSortCmp.QuietGrown
import Derived.Shelf.RegionOpenPlain
import Derived.BigRegion
import Derived.IntWalk
import Derived.Shelf.Abstract
import Derived.Deep.DeepCutAuto
import Derived.Deep.CutBlock
import Derived.Lib.AppendZerosOnto
import Derived.Deep.RegionWith
import Derived.Test.YtfljhnalmiibeaaGreatMbBagSorted
import Derived.Test.YtfljhnalmiibeaaGreatMbBagCmp
import Derived.WideKeyRuns
import Derived.MapKept
import Derived.Deep.WholeRow
import Derived.Test.YtfljhnalmiibeaaGreatMbBasPut2
namespace Go.Proofs.YtfljhnalmiibeaaGreat
set_option maxRecDepth 100000
open Go.RowKit
theorem baseOk_iff {s : List T6} {b : List (List LQ)} : baseOk s b = true ↔ rightE s = 0 ∧ b.length = s.length ∧ ∀ i, i < s.length → linesOk (s.getD i default).cols (linesB b i) = true := by
  simp only [baseOk, Bool.and_eq_true, decide_eq_true_eq, allN_iff, and_assoc]
theorem asc_iff {l : List LQ} : Asc l ↔ ∀ i, i + 1 < l.length → (l.getD i default).key < (l.getD (i + 1) default).key := by
  unfold Asc
  rw [List.pairwise_iff_getElem]
  constructor
  · intro h i hi
    have := h i (i + 1) (by omega) hi (by omega)
    simpa [List.getD_eq_getElem?_getD, List.getElem?_eq_getElem hi, List.getElem?_eq_getElem (show i < l.length by omega)] using this
  · intro h i j hi hj hij
    obtain ⟨d, rfl⟩ : ∃ d, j = i + 1 + d := ⟨j - i - 1, by omega⟩
    clear hij
    induction d with
    | zero =>
      have := h i hj
      simpa [List.getD_eq_getElem?_getD, List.getElem?_eq_getElem hi, List.getElem?_eq_getElem hj] using this
    | succ d ih =>
      have h1 := ih (by omega)
      have h2 := h (i + 1 + d) hj
      have h3 : (l.getD (i + 1 + d) default).key = (l[i + 1 + d]'(by omega)).key := by simp [List.getD_eq_getElem?_getD, List.getElem?_eq_getElem (show i + 1 + d < l.length by omega)]
      have h4 : (l.getD (i + 1 + d + 1) default).key = (l[i + 1 + (d + 1)]'hj).key := by
        rw [List.getD_eq_getElem?_getD, show i + 1 + d + 1 = i + 1 + (d + 1) by omega, List.getElem?_eq_getElem hj]; rfl
      omega
theorem linesOk_iff {cols : List C4} {l : List LQ} : linesOk cols l = true ↔ l.length ≤ 2000 ∧ Asc l ∧ ∀ y ∈ l, lineOk cols y = true := by
  have hg : ∀ i, i < l.length → l.getD i default ∈ l := fun i hi => by rw [List.getD_eq_getElem?_getD, List.getElem?_eq_getElem hi]; exact List.getElem_mem hi
  simp only [linesOk, Bool.and_eq_true, decide_eq_true_eq, allN_iff, lineAt, Bool.or_eq_true]
  constructor
  · rintro ⟨h1, h2⟩
    refine ⟨h1, asc_iff.2 fun i hi => ?_, fun y hy => ?_⟩
    · rcases (h2 (i + 1) hi).2 with h | h
      · omega
      · exact h
    · obtain ⟨i, hi, rfl⟩ := List.getElem_of_mem hy
      have := (h2 i hi).1
      rwa [List.getD_eq_getElem?_getD, List.getElem?_eq_getElem hi] at this
  · rintro ⟨h1, h2, h3⟩
    refine ⟨h1, fun i hi => ⟨h3 _ (hg i hi), ?_⟩⟩
    rcases i with _ | i
    · exact .inl rfl
    · exact .inr (asc_iff.1 h2 i hi)
theorem linesB_in {b : List (List LQ)} {t : Int} (h0 : 0 ≤ t) (ht : t.toNat < b.length) : linesB b t = b[t.toNat] := by
  rw [linesB, if_pos h0, List.getD_eq_getElem?_getD, List.getElem?_eq_getElem ht]; rfl
/-- a table that is there, or one that isn't -/
theorem tab_two (b : List (List LQ)) (t : Int) : (0 ≤ t ∧ t.toNat < b.length) ∨ (linesB b t = [] ∧ ∀ l, setB b t l = b) := by
  by_cases h0 : 0 ≤ t
  · by_cases ht : t.toNat < b.length
    · exact .inl ⟨h0, ht⟩
    · refine .inr ⟨?_, fun l => ?_⟩
      · rw [linesB, if_pos h0, List.getD_eq_getElem?_getD, List.getElem?_eq_none (by omega)]; rfl
      · rw [setB, if_pos h0, List.set_eq_of_length_le (by omega)]
  · exact .inr ⟨by rw [linesB, if_neg h0], fun l => by rw [setB, if_neg h0]⟩
theorem linesB_set {b : List (List LQ)} {t : Int} {l : List LQ} (h0 : 0 ≤ t) (ht : t.toNat < b.length) : linesB (setB b t l) t = l := by
  rw [setB, if_pos h0, linesB_in h0 (by rw [List.length_set]; exact ht), List.getElem_set_self]
theorem linesB_ne {b : List (List LQ)} {t : Int} {l : List LQ} {i : Nat} (h : i ≠ t.toNat) : linesB (setB b t l) (i : Int) = linesB b i := by
  unfold setB
  split
  · rw [linesB, if_pos (by omega), linesB, if_pos (by omega), List.getD_eq_getElem?_getD, List.getD_eq_getElem?_getD, show ((i : Int)).toNat = i from rfl, List.getElem?_set_ne (fun e => h e.symm)]
  · rfl
theorem set_set {b : List (List LQ)} {t : Int} {l m : List LQ} : setB (setB b t l) t m = setB b t m := by
  unfold setB
  split
  · rw [List.set_set]
  · rfl
theorem set_self {b : List (List LQ)} {t : Int} (h0 : 0 ≤ t) (ht : t.toNat < b.length) : setB b t (linesB b t) = b := by
  rw [linesB_in h0 ht, setB, if_pos h0, List.set_getElem_self]
theorem set_len {b : List (List LQ)} {t : Int} {l : List LQ} : (setB b t l).length = b.length := by
  unfold setB
  split
  · rw [List.length_set]
  · rfl
theorem putB_len {b : List (List LQ)} {t : Int} {y : LQ} : (putB13 b t y).length = b.length := set_len
theorem dropB_len {b : List (List LQ)} {t k : Int} : (dropB13 b t k).length = b.length := set_len
section
variable {s : List T6} {b : List (List LQ)} {t : Int} {y u : LQ} {k j : Int}
theorem right_asc (h : baseOk s b = true) (t : Int) : Asc (linesB b t) := by
  obtain ⟨_, h2, h3⟩ := baseOk_iff.1 h
  rcases tab_two b t with ⟨h0, ht⟩ | ⟨h0, _⟩
  · have := (linesOk_iff.1 (h3 t.toNat (by omega))).2.1
    rwa [show ((t.toNat : Nat) : Int) = t by omega] at this
  · rw [h0]; exact List.Pairwise.nil
theorem put_lines (h0 : 0 ≤ t) (ht : t.toNat < b.length) : linesB (putB13 b t y) t = putL (linesB b t) y := linesB_set h0 ht
theorem drop_lines (h0 : 0 ≤ t) (ht : t.toNat < b.length) : linesB (dropB13 b t k) t = dropL (linesB b t) k := linesB_set h0 ht
theorem put_out (h : ∀ l, setB b t l = b) : putB13 b t y = b := h _
theorem drop_out (h : ∀ l, setB b t l = b) : dropB13 b t k = b := h _
theorem base_get_put (h : Asc (linesB b t)) (h0 : 0 ≤ t) (ht : t.toNat < b.length) : getB13 (putB13 b t y) t j = if j = y.key then some y else getB13 b t j := by
  unfold getB13
  rw [put_lines h0 ht, getL_put h]
theorem base_get_drop (h : Asc (linesB b t)) : getB13 (dropB13 b t k) t j = if j = k then none else getB13 b t j := by
  rcases tab_two b t with ⟨h0, ht⟩ | ⟨h0, h1⟩
  · unfold getB13
    rw [drop_lines h0 ht, getL_drop h]
  · rw [drop_out h1]
    unfold getB13
    rw [h0, getL_nil]
    split <;> rfl
theorem base_put_put (h : Asc (linesB b t)) (hn : y.key ≠ u.key) : putB13 (putB13 b t y) t u = putB13 (putB13 b t u) t y := by
  rcases tab_two b t with ⟨h0, ht⟩ | ⟨h0, h1⟩
  · have e : ∀ y u : LQ, putB13 (putB13 b t y) t u = setB b t (putL (putL (linesB b t) y) u) := fun y u => by
      rw [putB13, put_lines h0 ht, putB13, set_set]
    rw [e, e, putL_putL h hn]
  · rw [put_out h1, put_out h1, put_out h1]
theorem base_put_drop (h : Asc (linesB b t)) (hn : y.key ≠ k) : dropB13 (putB13 b t y) t k = putB13 (dropB13 b t k) t y := by
  rcases tab_two b t with ⟨h0, ht⟩ | ⟨h0, h1⟩
  · rw [dropB13, put_lines h0 ht, putB13, set_set, putB13, drop_lines h0 ht, dropB13, set_set, putL_dropL h hn]
  · rw [put_out h1, drop_out h1, put_out h1]
theorem base_put_twice (h : Asc (linesB b t)) : putB13 (putB13 b t y) t y = putB13 b t y := by
  rcases tab_two b t with ⟨h0, ht⟩ | ⟨h0, h1⟩
  · rw [putB13, put_lines h0 ht, putB13, set_set, putL_twice h]
  · rw [put_out h1, put_out h1]
theorem base_drop_twice (h : Asc (linesB b t)) : dropB13 (dropB13 b t k) t k = dropB13 b t k := by
  rcases tab_two b t with ⟨h0, ht⟩ | ⟨h0, h1⟩
  · rw [dropB13, drop_lines h0 ht, dropB13, set_set, dropL_twice h]
  · rw [drop_out h1, drop_out h1]
theorem base_drop_none (hx : getB13 b t k = none) : dropB13 b t k = b := by
  rcases tab_two b t with ⟨h0, ht⟩ | ⟨h0, h1⟩
  · rw [dropB13, dropL_none hx, set_self h0 ht]
  · exact drop_out h1
theorem base_put_back (h : Asc (linesB b t)) (hx : getB13 b t k = some y) : putB13 (dropB13 b t k) t y = b := by
  rcases tab_two b t with ⟨h0, ht⟩ | ⟨h0, h1⟩
  · rw [putB13, drop_lines h0 ht, dropB13, set_set, putL_back h hx, set_self h0 ht]
  · rw [drop_out h1, put_out h1]
theorem right_drop (h : baseOk s b = true) : baseOk s (dropB13 b t k) = true := by
  rcases tab_two b t with ⟨h0, ht⟩ | ⟨h0, h1⟩
  · obtain ⟨h1, h2, h3⟩ := baseOk_iff.1 h
    refine baseOk_iff.2 ⟨h1, by rw [dropB_len, h2], fun i hi => ?_⟩
    have h4 := linesOk_iff.1 (h3 i hi)
    by_cases hit : i = t.toNat
    · subst hit
      rw [show ((t.toNat : Nat) : Int) = t by omega] at h4 ⊢
      rw [drop_lines h0 ht]
      exact linesOk_iff.2 ⟨Nat.le_trans dropL_len h4.1, h4.2.1.dropL k, fun y hy => h4.2.2 y ((drop_sub _ _).mem hy)⟩
    · rw [dropB13, linesB_ne hit]
      exact h3 i hi
  · rw [drop_out h1]; exact h
theorem right_put_is (h : baseOk s b = true) (h0 : 0 ≤ t) (ht : t.toNat < b.length) (hl : (linesB b t).length < 2000) : baseOk s (putB13 b t y) = lineOk (s.getD t.toNat default).cols y := by
  obtain ⟨h1, h2, h3⟩ := baseOk_iff.1 h
  have ha := right_asc h t
  rw [Bool.eq_iff_iff]
  constructor
  · intro h4
    have h5 := linesOk_iff.1 ((baseOk_iff.1 h4).2.2 t.toNat (by omega))
    rw [show ((t.toNat : Nat) : Int) = t by omega, put_lines h0 ht] at h5
    exact h5.2.2 y (in_putL ha y)
  · intro h4
    refine baseOk_iff.2 ⟨h1, by rw [putB_len, h2], fun i hi => ?_⟩
    have h5 := linesOk_iff.1 (h3 i hi)
    by_cases hit : i = t.toNat
    · subst hit
      rw [show ((t.toNat : Nat) : Int) = t by omega] at h5 ⊢
      rw [put_lines h0 ht]
      refine linesOk_iff.2 ⟨?_, h5.2.1.putL y, fun z hz => ?_⟩
      · have := (putL_len (l := linesB b t) (x := y)).1
        omega
      · rcases mem_putL hz with rfl | hz
        · exact h4
        · exact h5.2.2 z hz
    · rw [putB13, linesB_ne hit]
      exact h3 i hi
theorem right_new (h : rightE s = 0) : baseOk s (List.replicate s.length []) = true := by
  refine baseOk_iff.2 ⟨h, List.length_replicate, fun i hi => ?_⟩
  have : linesB (List.replicate s.length []) (i : Int) = [] := by
    rw [linesB, if_pos (by omega), List.getD_eq_getElem?_getD, List.getElem?_eq_getElem (by simpa using hi), List.getElem_replicate]; rfl
  rw [this]
  exact linesOk_iff.2 ⟨Nat.zero_le _, List.Pairwise.nil, fun y hy => by cases hy⟩
theorem right_put_may (h : baseOk s b = true) (h0 : 0 ≤ t) (ht : t.toNat < b.length) (hf : FewB b) : baseOk s (putB13 b t y) = baseOk s (putB13 (List.replicate s.length []) t y) := by
  obtain ⟨h1, h2, h3⟩ := baseOk_iff.1 h
  have hm : (linesB b t).length ≤ 100 := by
    rw [linesB_in h0 ht]
    exact Nat.le_trans (manyL_le (List.getElem_mem ht)) hf.many
  have he : linesB (List.replicate s.length []) t = [] := by
    rw [linesB, if_pos h0, List.getD_eq_getElem?_getD, List.getElem?_eq_getElem (by rw [List.length_replicate]; omega), List.getElem_replicate]; rfl
  rw [right_put_is h h0 ht (by omega), right_put_is (right_new h1) h0 (by rw [List.length_replicate]; omega) (by rw [he]; decide)]
theorem few_new {n : Nat} (h : n ≤ 20) : FewB (List.replicate n []) := by
  refine ⟨by rw [List.length_replicate]; exact h, ?_, fun l hl y hy => ?_⟩
  · have : ∀ k : Nat, manyL (List.replicate k ([] : List LQ)) = 0 := by
      intro k
      induction k with
      | zero => rfl
      | succ k ih => rw [List.replicate_succ]; unfold manyL at ih ⊢; rw [List.map_cons, List.sum_cons, ih]; rfl
    rw [this]; omega
  · rw [List.eq_of_mem_replicate hl] at hy
    cases hy
/-- sizes of what comes of it -/
theorem put_ok (h : FewB b) (hy : SmallL y) : BaseOk (putB13 b t y) := by
  rcases tab_two b t with ⟨h0, ht⟩ | ⟨h0, h1⟩
  · refine ⟨by rw [putB_len]; have := h.tabs; omega, fun l hl => ?_, fun l hl z hz => ?_⟩
    · rw [putB13, setB, if_pos h0] at hl
      rcases List.mem_or_eq_of_mem_set hl with hl | rfl
      · exact h.ok.rows l hl
      · have h1 := (putL_len (l := linesB b t) (x := y)).1
        have h2 : (linesB b t).length ≤ 100 := by
          rw [linesB_in h0 ht]
          exact Nat.le_trans (manyL_le (List.getElem_mem ht)) h.many
        omega
    · rw [putB13, setB, if_pos h0] at hl
      rcases List.mem_or_eq_of_mem_set hl with hl | rfl
      · exact h.ok.each l hl z hz
      · rcases mem_putL hz with rfl | hz
        · exact hy.ok
        · rw [linesB_in h0 ht] at hz
          exact h.ok.each _ (List.getElem_mem ht) z hz
  · rw [put_out h1]; exact h.ok
theorem drop_few (h : BaseOk b) : BaseOk (dropB13 b t k) := by
  rcases tab_two b t with ⟨h0, ht⟩ | ⟨h0, h1⟩
  · have hs := drop_sub (linesB b t) k
    refine ⟨by rw [dropB_len]; exact h.tabs, fun l hl => ?_, fun l hl z hz => ?_⟩
    · rw [dropB13, setB, if_pos h0] at hl
      rcases List.mem_or_eq_of_mem_set hl with hl | rfl
      · exact h.rows l hl
      · have h2 := h.rows _ (List.getElem_mem ht)
        rw [← linesB_in h0 ht] at h2
        exact Nat.le_trans hs.length_le h2
    · rw [dropB13, setB, if_pos h0] at hl
      rcases List.mem_or_eq_of_mem_set hl with hl | rfl
      · exact h.each l hl z hz
      · have hz := hs.mem hz
        rw [linesB_in h0 ht] at hz
        exact h.each _ (List.getElem_mem ht) z hz
  · rw [drop_out h1]; exact h
end
/-- what a right base shows -/
theorem shows_len {s : List T6} {b : List (List LQ)} {t k : Nat} {y : LQ} (h : baseOk s b = true) (hs : ∀ x ∈ s, x.cols.length = x.nc) (ht : t < b.length) (hy : (linesB b t)[k]? = some y) :
    (rowQ y).length = (s.getD t default).cols.length ∧ (rowQ y).length ≠ 0 ∧ (rowQ y)[0]? = some ⟨1, y.key, ⟨#[]⟩⟩ := by
  obtain ⟨h1, h2, h3⟩ := baseOk_iff.1 h
  have h4 := (linesOk_iff.1 (h3 t (by omega))).2.2 y (List.mem_of_getElem? hy)
  simp only [lineOk, Bool.and_eq_true, decide_eq_true_eq, allN_iff] at h4
  obtain ⟨⟨⟨⟨_, h5⟩, _⟩, h6⟩, h7⟩ := h4
  have hts : t < s.length := by omega
  have h8 := (rightE_tab h1).2.2 t s[t] (List.getElem?_eq_getElem hts)
  have hc : (s.getD t default) = s[t] := by rw [List.getD_eq_getElem?_getD, List.getElem?_eq_getElem hts]; rfl
  rw [hc] at h5 h6 ⊢
  have h9 : s[t].cols.length ≠ 0 := by rw [hs _ (List.getElem_mem hts)]; exact (tabErr_size h8).1
  have hl : (rowQ y).length = y.cs.length := List.length_map _
  refine ⟨hl.trans h5, by omega, ?_⟩
  have hk : regB (s[t].cols.getD 0 c40) = true := by
    have : keyErr (s[t].cols.getD 0 c40) = 0 := tabErr_ask h8 3 (by decide) 0 (by simp [askE])
    unfold keyErr at this
    split at this
    · exact absurd this (by decide)
    · rename_i hh
      simpa using fun e => hh (.inl e)
  have hq := h6 0 (by omega)
  simp only [cellAt, Bool.and_eq_true, decide_eq_true_eq] at hq
  have h0 : (0 : Nat) < y.cs.length := by omega
  have h00 : (0 : Nat) < s[t].cols.length := by omega
  have e1 : y.cs.getD 0 default = y.cs[0] := by rw [List.getD_eq_getElem?_getD, List.getElem?_eq_getElem h0]; rfl
  have e2 : s[t].cols.getD 0 default = s[t].cols[0] := by rw [List.getD_eq_getElem?_getD, List.getElem?_eq_getElem h00]; rfl
  have e3 : s[t].cols.getD 0 c40 = s[t].cols[0] := by rw [List.getD_eq_getElem?_getD, List.getElem?_eq_getElem h00]; rfl
  rw [e1, e2] at hq
  rw [e3] at hk
  rw [e1] at h7
  have hz : y.cs[0].k = 0 := by
    rw [hq.1]
    unfold regB at hk
    simp only [Bool.and_eq_true, beq_iff_eq] at hk
    exact hk.1
  rw [rowQ, List.getElem?_map, List.getElem?_eq_getElem h0]
  show some (showQ y.cs[0]) = _
  rw [showQ, if_pos hz, h7]
/-- rises, as the statement looks at it -/
theorem rises_asc {l : List D2} (h : ∀ i, i + 1 < l.length → overD (l.getD i ⟨0, 0⟩) (l.getD (i + 1) ⟨0, 0⟩) = true) : AscD l := by
  unfold AscD
  rw [List.pairwise_iff_getElem]
  intro i j hi hj hij
  obtain ⟨d, rfl⟩ : ∃ d, j = i + 1 + d := ⟨j - i - 1, by omega⟩
  clear hij
  have h' : ∀ i (hi : i + 1 < l.length), overD (l[i]'(by omega)) l[i + 1] = true := fun i hi => by
    have := h i hi
    rwa [List.getD_eq_getElem?_getD, List.getD_eq_getElem?_getD, List.getElem?_eq_getElem hi, List.getElem?_eq_getElem (show i < l.length by omega)] at this
  induction d with
  | zero => exact h' i hj
  | succ d ih =>
    have h1 := ih (by omega) h'
    have h2 := h' (i + 1 + d) hj
    have tr : ∀ a b c : D2, overD a b = true → overD b c = true → overD a c = true := by
      intro a b c h1 h2
      rw [overD_iff] at h1 h2 ⊢
      omega
    exact tr _ _ _ h1 h2
end Go.Proofs.YtfljhnalmiibeaaGreat

namespace Go.Proofs.YtfljhnalmiibeaaGreat
set_option maxRecDepth 100000
open Go.RowKit
set_option maxHeartbeats 12800000 in
theorem same13_any (A : Option Addr) (n c : Nat) (a : List (List LQ)) (B : Option Addr) (m d : Nat) (b : List (List LQ)) (w : World) (h : RdB w A n c a) (h2 : RdB w B m d b) :
    Calls Tryz.prog 14 #[.agg #[.slice A n c], .agg #[.slice B m d]] w fun e w' => e = .returned (.bool (decide (a = b))) ∧ Below w.heap.size w w' := by
  have hle := h.le; have hle2 := h2.le
  have HLA : Hid (a.length = n) := h.len; have HLB : Hid (b.length = m) := h2.len
  obtain ⟨w1, hw1⟩ : ∃ w1, w1 = ((w.alloc (baseBox A n c)).alloc (baseBox B m d)) := ⟨_, rfl⟩
  have HW := Lib.hid hw1
  have r0 : w1.heap[w.heap.size]? = some (baseBox A n c) := by rw [hw1]; exact old_row13 _ (new_row13 _ _ rfl)
  have r1 : w1.heap[w.heap.size + 1]? = some (baseBox B m d) := by rw [hw1]; exact new_row13 _ _ (by simp only [World.size_alloc])
  have b1 : Below w.heap.size w w1 := by rw [hw1]; exact below_new (below_new (Below.refl _ _) _) _
  have sz : w1.heap.size = w.heap.size + 1 + 1 := by rw [hw1]; simp only [World.size_alloc]
  have R0 := Lib.hid r0; have R1 := Lib.hid r1; have B1 := Lib.hid b1
  have HA := Lib.hid h; have HB := Lib.hid h2
  have p0 := base_row r0
  have p1 := base_row r1
  obtain ⟨r, hr⟩ : ∃ r, Hid (decide (a = b) = r) := ⟨_, rfl⟩
  rw [hr.out]
  generalize hg1 : w.heap.size + 1 = g1 at R1 p1 ⊢
  have HG1 := Lib.hid hg1
  clear h h2 r0 r1 b1 sz hw1 hg1
  by_cases c1 : n = m
  rotate_left
  · have HF : Hid (r = false) := by show _ = _; rw [← hr.out]; exact decide_eq_false (fun e => c1 (by rw [← HLA.out, ← HLB.out, e]))
    have q1 : ((n : Int) != (m : Int)) = true := by simp [bne]; omega
    have q2 : ¬ (n : Int) = (m : Int) := by omega
    clear c1
    go_enter Tryz.func14, Tryz.ntmps14
    go_upto_region 1 with fail
    rw [show ((w.alloc (baseBox A n c)).alloc (baseBox B m d)) = w1 from HW.out.symm]
    clear HW
    rw [HG1.out]
    go_wp2_with fail
    go_ret
    exact ⟨ret_bool HF.out.symm, B1.out⟩
  subst c1
  have q1 : ((n : Int) != (n : Int)) = false := by simp [bne]
  go_enter Tryz.func14, Tryz.ntmps14
  go_upto_region 1 with fail
  rw [show ((w.alloc (baseBox A n c)).alloc (baseBox B n d)) = w1 from HW.out.symm]
  clear HW
  rw [HG1.out]
  go_wp2_with fail
  clear p0 p1
  go_loopw [5] (fun i wr => ∃ k : Nat, k ≤ n ∧ i = .int .i64 k ∧ Hid (a.take k = b.take k) ∧ Hid (wr.heap[w.heap.size]? = some (baseBox A n c)) ∧ Hid (wr.heap[g1]? = some (baseBox B n d)) ∧ Hid (Below w.heap.size w wr)) (fun i _ => n - (intOf i).toNat)
  case atStart => exact ⟨0, Nat.zero_le _, rfl, rfl, R0, R1, B1⟩
  case round =>
    clear R0 R1 B1
    obtain ⟨k, hk, rfl, HT, R0, R1, B1⟩ := hrel
    have p0 := base_row R0.out
    have p1 := base_row R1.out
    by_cases hlt : k < n
    · obtain ⟨ba, oa, xa, la, rfl, hba, hxa, hra, hca⟩ := HA.out.data13 hlt
      obtain ⟨bb, ob, xb, lb, rfl, hbb, hxb, hrb, hcb⟩ := HB.out.data13 hlt
      have d0 := hca wr B1.out
      have d1 := hcb wr B1.out
      have y1 : (k : Int) < (n : Int) := by omega
      have y0 : (0 : Int) ≤ (k : Int) := by omega
      have HLa : Hid (la.length = xa.n) := hra.len; have HLb : Hid (lb.length = xb.n) := hrb.len
      have hxl := hra.le
      have HRa := Lib.hid hra; have HRb := Lib.hid hrb; have HXa := Lib.hid hxa; have HXb := Lib.hid hxb
      have HNE : Hid (la ≠ lb → r = false) := by
        show la ≠ lb → _
        intro hne
        rw [← hr.out]
        exact decide_eq_false (fun e => hne (by have h1 := HXa.out; rw [e, HXb.out] at h1; injection h1 with h1; exact h1.symm))
      clear hca hcb hxa hxb hra hrb hba hbb
      by_cases c2 : xa.n = xb.n
      rotate_left
      · have HF : Hid (r = false) := by show _ = _; exact HNE.out (fun e => c2 (by rw [← HLa.out, ← HLb.out, e]))
        have q3 : ((xa.n : Int) != (xb.n : Int)) = true := by simp [bne]; omega
        have q4 : ¬ (xa.n : Int) = (xb.n : Int) := by omega
        clear c2
        go_wp2_with fail
        go_ret
        exact ⟨ret_bool HF.out.symm, B1.out⟩
      obtain ⟨xaA, xan, xac⟩ := xa
      obtain ⟨xbA, xbn, xbc⟩ := xb
      dsimp only at c2 d0 d1 HRa HRb hxl HLa HLb
      subst c2
      have q3 : ((xan : Int) != (xan : Int)) = false := by simp [bne]
      go_wp2_with fail
      clear p0 p1 d0 d1
      go_loopw [8] (fun i wr => ∃ j : Nat, j ≤ xan ∧ i = .int .i64 j ∧ Hid (la.take j = lb.take j) ∧ Hid (wr.heap[w.heap.size]? = some (baseBox (some ⟨ba, oa, none⟩) n c)) ∧ Hid (wr.heap[g1]? = some (baseBox (some ⟨bb, ob, none⟩) n d)) ∧ Hid (Below w.heap.size w wr)) (fun i _ => xan - (intOf i).toNat)
      case atStart => exact ⟨0, Nat.zero_le _, rfl, rfl, R0, R1, B1⟩
      case round =>
        clear R0 R1 B1
        obtain ⟨j, hj, rfl, HT2, R0, R1, B1⟩ := hrel
        by_cases hlt2 : j < xan
        · obtain ⟨b1_, o1, x1, y1_, rfl, hb1, hx1, hr1, hc1⟩ := HRa.out.line13 hlt2
          obtain ⟨b2_, o2, x2, y2_, rfl, hb2, hx2, hr2, hc2⟩ := HRb.out.line13 hlt2
          obtain ⟨d0, d1, d2⟩ := hc1 wr B1.out
          obtain ⟨e0, e1, e2⟩ := hc2 wr B1.out
          have a0 : ∀ p : BelowOf wr, p.W.cell? ⟨b1_, o1 + j * 3, none⟩ = _ := fun p => p.cell d0
          have a1 : ∀ p : BelowOf wr, p.W.cell? ⟨b1_, o1 + j * 3 + 1, none⟩ = _ := fun p => p.cell d1
          have a2 : ∀ p : BelowOf wr, p.W.cell? ⟨b1_, o1 + j * 3 + 2, none⟩ = _ := fun p => p.cell d2
          have f0 : ∀ p : BelowOf wr, p.W.cell? ⟨b2_, o2 + j * 3, none⟩ = _ := fun p => p.cell e0
          have f1 : ∀ p : BelowOf wr, p.W.cell? ⟨b2_, o2 + j * 3 + 1, none⟩ = _ := fun p => p.cell e1
          have f2 : ∀ p : BelowOf wr, p.W.cell? ⟨b2_, o2 + j * 3 + 2, none⟩ = _ := fun p => p.cell e2
          obtain ⟨q, hq⟩ : ∃ q, Hid (decide (y1_ = y2_) = q) := ⟨_, rfl⟩
          have C1 : Hid (∀ W, Below wr.heap.size wr W → Calls Tryz.prog 22 #[.agg #[.int .i64 x1.key, .slice x1.ca x1.cn x1.cc, .slice x1.ba x1.bn x1.bc], .agg #[.int .i64 x2.key, .slice x2.ca x2.cn x2.cc, .slice x2.ba x2.bn x2.bc]] W fun e w' => e = .returned (.bool q) ∧ Below W.heap.size W w') := by
            show ∀ W, _; intro W hW
            have hb9 := below_then B1.out hW
            rw [← hq.out]
            exact sameLine_any x1 x2 y1_ y2_ W (hr1.below hb9) (hr2.below hb9)
          have z1 : (j : Int) < (xan : Int) := by omega
          have z0 : (0 : Int) ≤ (j : Int) := by omega
          have HX1 := Lib.hid hx1; have HX2 := Lib.hid hx2; have HQ := hq
          clear hc1 hc2 hx1 hx2 hr1 hr2 hb1 hb2 hq
          go_upto_region 13 with fail
          clear d0 d1 d2 e0 e1 e2
          refine wp_region_quiet_below (by kernel_rfl) (by kernel_rfl) ?_
          repeat (first | (with_reducible refine wpQuiet_step (fun K hK => ?_); go_simp; first | (with_reducible refine hK _ ?_; clear hK K) | (apply Exists.intro; with_reducible refine ⟨fun _ => ?_, hK _ ?_⟩; (go_at_call 22; exact Calls.quiet_below (C1.out _ (BelowOf.h _))); clear hK K)) | (with_reducible refine wpQuiet_pass (by kernel_rfl) ?_; (try simp only [Act.put, List.setIfInBounds_toArray, List.set_cons_zero, List.set_cons_succ])))
          with_reducible refine wpQuiet_nil ?_
          rintro wq ⟨⟨_, hq⟩, rfl⟩
          have HB3 := Lib.hid (below_then B1.out hq)
          have U0 := Lib.hid (row_below R0.out hq)
          have U1 := Lib.hid (row_below R1.out hq)
          clear a0 a1 a2 f0 f1 f2 hq
          cases q with
          | true =>
            have HN := Lib.hid (takeEq_next13 HT2.out HX1.out HX2.out (of_decide_eq_true HQ.out))
            go_wp2_with fail
            exact ⟨⟨j + 1, by omega, by go_num, HN, U0, U1, HB3⟩, by simp [intOf]; omega⟩
          | false =>
            have HF : Hid (r = false) := by show _ = _; exact HNE.out (fun h => of_decide_eq_false HQ.out (by have h1 := HX1.out; rw [h, HX2.out] at h1; injection h1 with h1; exact h1.symm))
            go_wp2_with fail
            go_ret
            exact ⟨ret_bool HF.out.symm, HB3.out⟩
        · have hje : j = xan := by omega
          have z1 : ¬ (j : Int) < (xan : Int) := by omega
          have HE : Hid (la = lb) := by
            show _ = _
            have h1 := HT2.out
            rwa [List.take_of_length_le (by rw [HLa.out, hje]; exact Nat.le_refl _), List.take_of_length_le (by rw [HLb.out, hje]; exact Nat.le_refl _)] at h1
          have HN := Lib.hid (takeEq_next13 HT.out HXa.out HXb.out HE.out)
          clear hje
          go_wp2_with fail
          exact ⟨⟨k + 1, by omega, by go_num, HN, R0, R1, B1⟩, by simp [intOf]; omega⟩
    · have hke : k = n := by omega
      have y1 : ¬ (k : Int) < (n : Int) := by omega
      have HF : Hid (r = true) := by
        show _ = _
        rw [← hr.out]
        have h1 := HT.out
        rw [List.take_of_length_le (by rw [HLA.out, hke]; exact Nat.le_refl _), List.take_of_length_le (by rw [HLB.out, hke]; exact Nat.le_refl _)] at h1
        exact decide_eq_true h1
      clear hke
      go_wp2_with fail
      go_ret
      exact ⟨ret_bool HF.out.symm, B1.out⟩
end Go.Proofs.YtfljhnalmiibeaaGreat

namespace Go.Proofs.YtfljhnalmiibeaaGreat
set_option maxRecDepth 100000
open Go.RowKit
section
variable {A B : Option Addr} {n c m d : Nat} {a b D : List (List LQ)} {t k : Int} {w : World} {x z : LnR} {y u : LQ}
theorem get_is (h : RdB w A n c b) (hb : BaseOk b) {o : Option LQ} {q : Bool} (ho : Hid (getB13 b t k = o ∧ o.isSome = q)) : Calls Tryz.prog 25 #[.agg #[.slice A n c], .int .i64 t, .int .i64 k] w fun e w' => ∃ z : LnR, e = .returned (.tuple #[z.agg, .bool q]) ∧ LineR w' z (o.getD noLine) ∧ Below w.heap.size w w' := by
  refine (get13_any A n c b t k w w h (Below.refl _ _) hb).mono ?_
  rintro e w' ⟨z, rfl, h, b⟩
  obtain ⟨ho, hq⟩ := ho.out
  rw [ho] at h ⊢
  rw [hq]
  exact ⟨z, rfl, h w' (Agree.refl _ _ _), b⟩
theorem put_is (h : RdB w A n c b) (hb : BaseOk b) (hx : LineR w x y) (hs : LineOk y) (hD : Hid (putB13 b t y = D)) : Calls Tryz.prog 18 #[.agg #[.slice A n c], .int .i64 t, x.agg] w fun e w' => ∃ (xa : Option Addr) (xc : Nat), e = .returned (.agg #[.slice xa n xc]) ∧ RdB w' xa n xc D ∧ Below w.heap.size w w' := by
  refine (put13_any A n c b t x y w w h (Below.refl _ _) hb hx hs).mono ?_
  rintro e w' ⟨⟨xa, xn, xc⟩, rfl, h9, ⟨hn, _⟩, b9⟩
  dsimp only at hn
  subst hn
  rw [hD.out] at h9
  exact ⟨xa, xc, rfl, h9 w' (Agree.refl _ _ _), b9⟩
theorem drop_is (h : RdB w A n c b) (hb : BaseOk b) (hD : Hid (dropB13 b t k = D)) : Calls Tryz.prog 20 #[.agg #[.slice A n c], .int .i64 t, .int .i64 k] w fun e w' => ∃ (xa : Option Addr) (xc : Nat), e = .returned (.agg #[.slice xa n xc]) ∧ RdB w' xa n xc D ∧ Below w.heap.size w w' := by
  refine (drop13_any A n c b t k w w h (Below.refl _ _) hb).mono ?_
  rintro e w' ⟨⟨xa, xn, xc⟩, rfl, h9, ⟨hn, _⟩, b9⟩
  dsimp only at hn
  subst hn
  rw [hD.out] at h9
  exact ⟨xa, xc, rfl, h9 w' (Agree.refl _ _ _), b9⟩
theorem putF_is (h : RdB w A n c b) (hb : BaseOk b) (hx : LineR w x y) (hs : LineOk y) (hD : Hid (putB13 b t y = D)) : Calls Tryz.prog 18 #[.agg #[.slice A n c], .int .i64 t, x.agg] w fun e w' => ∃ (xa : Option Addr) (xc : Nat), e = .returned (.agg #[.slice xa n xc]) ∧ RdB w' xa n xc D ∧ (∀ a, xa = some a → w.heap.size ≤ a.block) ∧ Below w.heap.size w w' := by
  refine (put13_any A n c b t x y w w h (Below.refl _ _) hb hx hs).mono ?_
  rintro e w' ⟨⟨xa, xn, xc⟩, rfl, h9, ⟨hn, hf⟩, b9⟩
  dsimp only at hn hf
  subst hn
  rw [hD.out] at h9
  exact ⟨xa, xc, rfl, h9 w' (Agree.refl _ _ _), hf, b9⟩
theorem dropF_is (h : RdB w A n c b) (hb : BaseOk b) (hD : Hid (dropB13 b t k = D)) : Calls Tryz.prog 20 #[.agg #[.slice A n c], .int .i64 t, .int .i64 k] w fun e w' => ∃ (xa : Option Addr) (xc : Nat), e = .returned (.agg #[.slice xa n xc]) ∧ RdB w' xa n xc D ∧ (∀ a, xa = some a → w.heap.size ≤ a.block) ∧ Below w.heap.size w w' := by
  refine (drop13_any A n c b t k w w h (Below.refl _ _) hb).mono ?_
  rintro e w' ⟨⟨xa, xn, xc⟩, rfl, h9, ⟨hn, hf⟩, b9⟩
  dsimp only at hn hf
  subst hn
  rw [hD.out] at h9
  exact ⟨xa, xc, rfl, h9 w' (Agree.refl _ _ _), hf, b9⟩
theorem new_is {s : List T6} (h : RdS11 w A n c s) (hn : n ≤ 4294967296) : Calls Tryz.prog 15 #[.agg #[.slice A n c]] w fun e w' => ∃ (xa : Option Addr) (xc : Nat), e = .returned (.agg #[.slice xa n xc]) ∧ RdB w' xa n xc (List.replicate s.length []) ∧ Below w.heap.size w w' := by
  refine (new13_any A n c w hn).mono ?_
  rintro e w' ⟨⟨xa, xn, xc⟩, rfl, h2, b⟩
  have h3 := h2 w' (Agree.refl _ _ _)
  obtain rfl : n = xn := by have := h3.len; rwa [List.length_replicate] at this
  have := h.len
  exact ⟨xa, xc, rfl, by rw [this]; exact h3, b⟩
theorem wrote_is {v : D2} (h : LineR w x y) (hs : LineOk y) (hu : Hid (wroteL y v = u)) : Calls Tryz.prog 23 #[x.agg, v.agg] w fun e w' => ∃ z : LnR, e = .returned z.agg ∧ LineR w' z u ∧ Below w.heap.size w w' := by
  refine (wrote13_any x y v w w h (Below.refl _ _) hs).mono ?_
  rintro e w' ⟨z, rfl, h, b⟩
  rw [hu.out] at h
  exact ⟨z, rfl, h w' (Agree.refl _ _ _), b⟩
theorem same_is (h : RdB w A n c a) (h2 : RdB w B m d b) (he : a = b) : Calls Tryz.prog 14 #[.agg #[.slice A n c], .agg #[.slice B m d]] w fun e w' => e = .returned (.bool true) ∧ Below w.heap.size w w' := by
  have := same13_any A n c a B m d b w h h2
  rwa [decide_eq_true he] at this
theorem sameLine_is (h : LineR w x y) (h2 : LineR w z u) (he : y = u) : Calls Tryz.prog 22 #[x.agg, z.agg] w fun e w' => e = .returned (.bool true) ∧ Below w.heap.size w w' := by
  have := sameLine_any x z y u w h h2
  rwa [decide_eq_true he] at this
theorem right_is {s : List T6} {r : Bool} (h : RdS11 w A n c s) (hb : RdB w B m d b) (hok : BaseOk b) (hr : Hid (baseOk s b = r)) : Calls Tryz.prog 12 #[.agg #[.slice A n c], .agg #[.slice B m d]] w fun e w' => e = .returned (.bool r) ∧ Below w.heap.size w w' := by
  rw [← hr.out]; exact right13_any A n c s B m d b w h hb hok
/-- a row of what takes several cells doesn't lie in a box of one -/
theorem rdg_past {α : Type} {enc : α → List Value} {sz g : Nat} {w U : World} {A : Option Addr} {n c : Nat} {l : List α} {v : Value} {ty : TypeId} (hl : ∀ x, (enc x).length = sz) (hsz : 2 ≤ sz) (h : RdG enc sz w A n c l) (hg : w.heap[g]? = some (.cells #[v] ty)) (ha : Agree g (g + 1) w U) : RdG enc sz U A n c l := by
  refine rdg_agree h (fun h0 a e => ?_) ha
  obtain ⟨b, o, x, e2, _, _, hc⟩ := h.at_ h0
  rw [e] at e2
  obtain rfl := Option.some.inj e2
  by_cases hb : b = g
  · exfalso
    have hx : 1 < (enc x).length := by rw [hl x]; omega
    have := hc 1 (enc x)[1] (List.getElem?_eq_getElem hx)
    rw [hb] at this
    simp only [World.cell?, hg] at this
    simp at this
  · show b < g ∨ g + 1 ≤ b
    omega
theorem cs_past {g : Nat} {U : World} {v : Value} {ty : TypeId} {A : Option Addr} {n c : Nat} {l : List CQ} (h : RdCs w A n c l) (hg : w.heap[g]? = some (.cells #[v] ty)) (ha : Agree g (g + 1) w U) : RdCs U A n c l := by
  obtain ⟨L, h1, h2, h3⟩ := h
  exact ⟨L, rdg_past c5len (by decide) h1 hg ha, h2, fun j x y hx hy => ⟨(h3 j x y hx hy).1, (h3 j x y hx hy).2.1, rdg_past p11len (by decide) (h3 j x y hx hy).2.2 hg ha⟩⟩
theorem line_past {g : Nat} {U : World} {v : Value} {ty : TypeId} (h : LineR w x y) (hg : w.heap[g]? = some (.cells #[v] ty)) (ha : Agree g (g + 1) w U) : LineR U x y :=
  ⟨h.1, cs_past h.2.1 hg ha, rdg_past d2len (by decide) h.2.2 hg ha⟩
theorem base_past {g : Nat} {U : World} {v : Value} {ty : TypeId} (h : RdB w A n c b) (hA : ∀ p, A = some p → p.block ≠ g) (hg : w.heap[g]? = some (.cells #[v] ty)) (ha : Agree g (g + 1) w U) : RdB U A n c b := by
  obtain ⟨L, h1, h2, h3⟩ := h
  refine ⟨L, rdg_agree h1 (fun _ p e => by have := hA p e; omega) ha, h2, fun j x y hx hy => ?_⟩
  obtain ⟨M, h4, h5, h6⟩ := h3 j x y hx hy
  exact ⟨M, rdg_past lnRlen (by decide) h4 hg ha, h5, fun j x y hx hy => line_past (h6 j x y hx hy) hg ha⟩
theorem set_old {g : Nat} {o : Obj} (h : w.heap[g]? = some o) {w' : World} (b : Below w.heap.size w w') : w'.heap[g]? = some o := row_below h b
end
end Go.Proofs.YtfljhnalmiibeaaGreat

namespace Go.Proofs.YtfljhnalmiibeaaGreat
set_option maxRecDepth 100000
open Go.RowKit Go.Sort Srt
abbrev b1 : P11 := partB ⟨5, ⟨1, 1⟩⟩
abbrev b2 : P11 := partB ⟨5, ⟨2, 1⟩⟩
end Go.Proofs.YtfljhnalmiibeaaGreat

namespace Go.Proofs.YtfljhnalmiibeaaGreat
set_option maxRecDepth 100000
open Go.RowKit
theorem open_dot2 {H : Type} {enc : TypeId × Value → H} {W : World} {base : Nat} {v : Value} {d : DataW H} {ps : List MemPlace} (hval : Value.okWide Tryz.prog W .any base 74 v) (h : DataW.Trod enc Tryz.prog W 0 (fun _ => true) true 74 v d ps) :
    ∃ x y : D2, v = .agg #[.int .i64 x.d, .int .i64 x.s, .int .i64 y.d, .int .i64 y.s] := by
  obtain ⟨cs, rfl, hsz⟩ := okWide_arr Tryz.underlying74 hval
  obtain ⟨l⟩ := cs
  replace hsz : l.length = 4 := hsz.trans (by kernel_rfl)
  obtain ⟨fuel, hf⟩ := h
  obtain ⟨xs, m, _, _, _, hlen, hx⟩ := DataW.trod_array Tryz.underlying74 hf
  match xs, hlen, l, hsz with
  | [y0, y1], _, [c0, c1, c2, c3], _ =>
    have h0 := hx 0 (by omega)
    have h1 := hx 1 (by omega)
    rw [Tryz.cellsDot] at h0 h1
    have h0 : DataW.trod enc Tryz.prog W 0 (fun _ => true) true m 40 [c0, c1] = some y0 := h0
    have h1 : DataW.trod enc Tryz.prog W 0 (fun _ => true) true m 40 [c2, c3] = some y1 := h1
    obtain ⟨x, e0, _⟩ := dot_cells _ _ _ h0
    obtain ⟨y, e1, _⟩ := dot_cells _ _ _ h1
    simp only [List.cons.injEq, and_true] at e0 e1
    obtain ⟨rfl, rfl⟩ := e0
    obtain ⟨rfl, rfl⟩ := e1
    exact ⟨x, y, rfl⟩
end Go.Proofs.YtfljhnalmiibeaaGreat

