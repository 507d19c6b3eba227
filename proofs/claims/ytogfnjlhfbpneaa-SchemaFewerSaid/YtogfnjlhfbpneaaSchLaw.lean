/- Layer 11, in plain mathematics: what follows of a schema that is right. -/
import Derived.Test.YtogfnjlhfbpneaaSchRefT
import Derived.Test.YtogfnjlhfbpneaaSchEq
import Derived.Deep.QuietTactic
namespace Go.Proofs.Ytogfnjlhfbpneaa
set_option maxRecDepth 100000
open Go.RowKit

/-- an operation that isn't wanted is passed over -/
theorem wpQuiet_pass {P : Program} {ops : Array Oper} {C : World → Prop} {Q : Act → Prop} {a : Act} {o : Oper} {rest : List Oper} (hw : Region.wanted o (yielded ops a.tmps) = false) (h : wpQuiet P ops C Q rest (a.put o.dst undef)) : wpQuiet P ops C Q (o :: rest) a := by
  unfold wpQuiet
  rw [hw]
  exact h
theorem rightE_tab {l : List T6} (h : rightE l = 0) : l.length ≠ 0 ∧ l.length ≤ 16 ∧ ∀ k t, l[k]? = some t → tabErr l.length (l.take k) t = 0 := by
  unfold rightE at h
  split at h
  · exact absurd h (by decide)
  · rename_i hn
    refine ⟨by omega, by omega, fun k t ht => ?_⟩
    have hk := (List.getElem?_eq_some_iff.1 ht).1
    have := (firstE_zero _ _).1 h k hk
    rwa [getD_of ht] at this
theorem tabErr_ask {n : Nat} {a : List T6} {t : T6} (h : tabErr n a t = 0) (q : Nat) (hq : q < 7) (i : Nat) (hi : i < (askE n a t q).1) : (askE n a t q).2 i = 0 :=
  (firstE_zero _ _).1 ((firstE_zero _ _).1 h q hq) i hi
theorem tabErr_name {n : Nat} {a : List T6} {t : T6} (h : tabErr n a t = 0) : nameZ t.nm = true ∧ hasN T6.nm a t.nm = false := by
  have h1 : nameErr a t.nm = 0 := tabErr_ask h 0 (by decide) 0 (by simp [askE])
  unfold nameErr at h1
  split at h1
  · exact absurd h1 (by decide)
  · split at h1
    · exact absurd h1 (by decide)
    · rename_i h2 h3
      exact ⟨by simpa using h2, by simpa using h3⟩
theorem tabErr_size {n : Nat} {a : List T6} {t : T6} (h : tabErr n a t = 0) : t.nc ≠ 0 ∧ t.nc ≤ 16 ∧ t.nh ≤ 16 ∧ t.nu ≤ 16 ∧ t.nf ≤ 16 ∧ t.ns ≤ 16 := by
  have h1 : sizeErr t = 0 := tabErr_ask h 1 (by decide) 0 (by simp [askE])
  unfold sizeErr at h1
  split at h1
  · exact absurd h1 (by decide)
  · omega
theorem hasN_at {α : Type} {nm : α → ByteArray} {l : List α} {k : Nat} {s : ByteArray} (h : hasN nm (l.take k) s = false) : ∀ j y, j < k → l[j]? = some y → decide (nm y = s) = false := by
  intro j y hj hy
  unfold hasN at h
  rw [List.any_eq_false] at h
  have := h y (List.mem_of_getElem? (i := j) (by rw [List.getElem?_take, if_pos hj]; exact hy))
  simpa using this
theorem right_table {l : List T6} (h : rightE l = 0) {k : Nat} {t : T6} (ht : l[k]? = some t) : tableP l t.nm = some k :=
  (findP_some _ l k).2 ⟨t, ht, by simp, hasN_at (tabErr_name ((rightE_tab h).2.2 k t ht)).2⟩
theorem right_column {n : Nat} {a : List T6} {t : T6} (h : tabErr n a t = 0) (hl : t.cols.length = t.nc) {i : Nat} {c : C4} (hc : t.cols[i]? = some c) : columnP t.cols c.nm = some i := by
  have hi := (List.getElem?_eq_some_iff.1 hc).1
  have h1 : colErr (t.cols.take i) (t.cols.getD i c40) = 0 := tabErr_ask h 2 (by decide) i (by show i < t.nc; omega)
  rw [getD_of hc] at h1
  have h2 : hasN C4.nm (t.cols.take i) c.nm = false := by
    unfold colErr at h1
    split at h1
    · exact absurd h1 (by decide)
    · split at h1
      · exact absurd h1 (by decide)
      · rename_i h3; simpa using h3
  exact (findP_some _ t.cols i).2 ⟨c, hc, by simp, hasN_at h2⟩
theorem right_fk {n : Nat} {a : List T6} {t : T6} (h : tabErr n a t = 0) (hl : t.fks.length = t.nf) {i : Nat} {f : F3} (hf : t.fks[i]? = some f) : 1 ≤ f.a ∧ 0 ≤ f.b ∧ f.b < (n : Int) ∧ (0 < i → ∀ g, t.fks[i - 1]? = some g → g.a < f.a) := by
  have hi := (List.getElem?_eq_some_iff.1 hf).1
  have h1 : fkErr n t.cols t.fks i = 0 := tabErr_ask h 5 (by decide) i (by show i < t.nf; omega)
  unfold fkErr at h1
  rw [getD_of hf] at h1
  split at h1
  · exact absurd h1 (by decide)
  · split at h1
    · exact absurd h1 (by decide)
    · rename_i h2 h3
      simp only [not_or, bindB, Bool.not_eq_false, Bool.and_eq_true, decide_eq_true_eq] at h2
      refine ⟨by omega, by omega, by omega, fun h0 g hg => ?_⟩
      rw [getD_of hg] at h3
      simp only [not_or, not_and] at h3
      have := h3.1 h0
      omega
theorem right_rise {n : Nat} {a : List T6} {t : T6} (h : tabErr n a t = 0) (hl : t.fks.length = t.nf) : ∀ (i j : Nat) (f g : F3), t.fks[i]? = some f → t.fks[j]? = some g → j < i → g.a < f.a
  | 0, _, _, _, _, _, hj => absurd hj (by omega)
  | i + 1, j, f, g, hf, hg, hj => by
    have hi := (List.getElem?_eq_some_iff.1 hf).1
    obtain ⟨e, he⟩ : ∃ e, t.fks[i]? = some e := ⟨_, List.getElem?_eq_getElem (by omega)⟩
    have h1 := (right_fk h hl hf).2.2.2 (by omega) e (by simpa using he)
    by_cases hji : j = i
    · subst hji; rw [hg] at he; cases he; exact h1
    · have := right_rise h hl i j e g he hg (by omega)
      omega
theorem right_foreign {n : Nat} {a : List T6} {t : T6} (h : tabErr n a t = 0) (hl : t.fks.length = t.nf) {i : Nat} {f : F3} (hf : t.fks[i]? = some f) : foreignP t.fks f.a = some i := by
  refine (findP_some _ t.fks i).2 ⟨f, hf, by simp, fun j g hj hg => ?_⟩
  have := right_rise h hl i j f g hf hg hj
  simp; omega

/-- a pair stands ahead of another one -/
def lexP (x y : Int × Int) : Prop := x.1 < y.1 ∨ (x.1 = y.1 ∧ x.2 < y.2)
theorem kidsRow_mem {i : Nat} {z : Int} : ∀ {l : List F3} {j : Nat} {x : Int × Int}, x ∈ kidsRow i z j l → ∃ (k : Nat) (f : F3), l[k]? = some f ∧ f.b = z ∧ x = ((i : Int), ((j + k : Nat) : Int))
  | f :: l, j, x, h => by
    simp only [kidsRow] at h
    split at h
    · rename_i hb
      rcases List.mem_cons.1 h with rfl | h
      · exact ⟨0, f, rfl, hb, by simp⟩
      · obtain ⟨k, g, h1, h2, h3⟩ := kidsRow_mem h
        exact ⟨k + 1, g, h1, h2, by rw [h3]; congr 2; omega⟩
    · obtain ⟨k, g, h1, h2, h3⟩ := kidsRow_mem h
      exact ⟨k + 1, g, h1, h2, by rw [h3]; congr 2; omega⟩
theorem kidsRow_rise {i : Nat} {z : Int} : ∀ {l : List F3} {j : Nat}, (kidsRow i z j l).Pairwise lexP
  | [], _ => List.Pairwise.nil
  | f :: l, j => by
    simp only [kidsRow]
    split
    · refine List.Pairwise.cons (fun x hx => ?_) kidsRow_rise
      obtain ⟨k, g, _, _, rfl⟩ := kidsRow_mem hx
      exact .inr ⟨rfl, by show (j : Int) < _; omega⟩
    · exact kidsRow_rise
theorem kidsAt_mem {z : Int} : ∀ {l : List T6} {i : Nat} {x : Int × Int}, x ∈ kidsAt z i l → ∃ (k : Nat) (t : T6) (j : Nat) (f : F3), l[k]? = some t ∧ t.fks[j]? = some f ∧ f.b = z ∧ x = (((i + k : Nat) : Int), (j : Int))
  | t :: l, i, x, h => by
    simp only [kidsAt, List.mem_append] at h
    rcases h with h | h
    · obtain ⟨j, f, h1, h2, h3⟩ := kidsRow_mem h
      exact ⟨0, t, j, f, rfl, h1, h2, by rw [h3]; simp⟩
    · obtain ⟨k, u, j, f, h1, h2, h3, h4⟩ := kidsAt_mem h
      exact ⟨k + 1, u, j, f, h1, h2, h3, by rw [h4]; congr 2; omega⟩
theorem kidsAt_rise {z : Int} : ∀ {l : List T6} {i : Nat}, (kidsAt z i l).Pairwise lexP
  | [], _ => List.Pairwise.nil
  | t :: l, i => by
    simp only [kidsAt]
    refine List.pairwise_append.2 ⟨kidsRow_rise, kidsAt_rise, fun x hx y hy => ?_⟩
    obtain ⟨j, f, _, _, rfl⟩ := kidsRow_mem hx
    obtain ⟨k, u, j', f', _, _, _, rfl⟩ := kidsAt_mem hy
    exact .inl (by show (i : Int) < _; omega)
theorem kidsL_at {l : List T6} {z : Int} {q : Nat} {x : Int × Int} (h : (kidsL l z)[q]? = some x) : ∃ (k : Nat) (t : T6) (j : Nat) (f : F3), l[k]? = some t ∧ t.fks[j]? = some f ∧ f.b = z ∧ x = ((k : Int), (j : Int)) := by
  obtain ⟨k, t, j, f, h1, h2, h3, h4⟩ := kidsAt_mem (List.mem_of_getElem? h)
  exact ⟨k, t, j, f, h1, h2, h3, by rw [h4]; congr 2; omega⟩
theorem kidsL_next {l : List T6} {z : Int} {q : Nat} {x y : Int × Int} (hq : 0 < q) (hx : (kidsL l z)[q]? = some x) (hy : (kidsL l z)[q - 1]? = some y) : lexP y x := by
  obtain ⟨h1, e1⟩ := List.getElem?_eq_some_iff.1 hx
  obtain ⟨h2, e2⟩ := List.getElem?_eq_some_iff.1 hy
  have := List.pairwise_iff_getElem.1 (kidsAt_rise (z := z) (l := l) (i := 0)) (q - 1) q h2 h1 (by omega)
  change lexP (kidsL l z)[q - 1] (kidsL l z)[q] at this
  rwa [e1, e2] at this

/-- how many kids the first tables have -/
def sumK (l : List T6) (m : Nat) : Nat := ((List.range m).map fun (z : Nat) => (kidsL l (z : Int)).length).sum
theorem sumK_succ (l : List T6) (m : Nat) : sumK l (m + 1) = sumK l m + (kidsL l (m : Int)).length := by
  simp [sumK, List.range_succ]
def sumF (l : List T6) : Nat := (l.map fun t => t.nf).sum
theorem sumF_take {l : List T6} {k : Nat} {t : T6} (h : l[k]? = some t) : sumF (l.take (k + 1)) = sumF (l.take k) + t.nf := by
  rw [List.take_add_one, h]
  simp [sumF]
def sumRow (i m j : Nat) (l : List F3) : Nat := ((List.range m).map fun (z : Nat) => (kidsRow i (z : Int) j l).length).sum
theorem sum_add (m : Nat) (f g : Nat → Nat) : ((List.range m).map fun z => f z + g z).sum = ((List.range m).map f).sum + ((List.range m).map g).sum := by
  induction m with
  | zero => rfl
  | succ m ih => simp only [List.range_succ, List.map_append, List.sum_append, List.map_cons, List.map_nil, List.sum_cons, List.sum_nil, ih]; omega
theorem sum_one (m : Nat) (b : Int) (h0 : 0 ≤ b) (h1 : b < (m : Int)) : ((List.range m).map fun (z : Nat) => if b = (z : Int) then 1 else 0).sum = 1 := by
  induction m with
  | zero => omega
  | succ m ih =>
    simp only [List.range_succ, List.map_append, List.sum_append, List.map_cons, List.map_nil, List.sum_cons, List.sum_nil]
    by_cases hb : b = (m : Int)
    · have : ((List.range m).map fun (z : Nat) => if b = (z : Int) then 1 else 0).sum = 0 := by
        rw [List.sum_eq_zero_iff_forall_eq_nat]
        intro x hx
        obtain ⟨z, hz, rfl⟩ := List.mem_map.1 hx
        rw [List.mem_range] at hz
        rw [if_neg (by omega)]
      rw [this, if_pos hb]; rfl
    · rw [ih (by omega), if_neg hb]; rfl
theorem sumRow_all (i m : Nat) : ∀ (l : List F3) (j : Nat), (∀ f ∈ l, 0 ≤ f.b ∧ f.b < (m : Int)) → sumRow i m j l = l.length
  | [], j, _ => by
    unfold sumRow
    show _ = 0
    rw [List.sum_eq_zero_iff_forall_eq_nat]
    intro x hx
    obtain ⟨z, _, rfl⟩ := List.mem_map.1 hx
    rfl
  | f :: l, j, h => by
    have h1 := sumRow_all i m l (j + 1) (fun g hg => h g (List.mem_cons_of_mem _ hg))
    have h2 := sum_one m f.b (h f (by simp)).1 (h f (by simp)).2
    have h3 : sumRow i m j (f :: l) = ((List.range m).map fun (z : Nat) => (if f.b = (z : Int) then 1 else 0) + (kidsRow i (z : Int) (j + 1) l).length).sum := by
      unfold sumRow
      congr 1
      refine List.map_congr_left fun z _ => ?_
      simp only [kidsRow]
      split <;> simp [Nat.add_comm]
    rw [h3, sum_add, h2, List.length_cons]
    unfold sumRow at h1
    omega
def sumAt (m i : Nat) (l : List T6) : Nat := ((List.range m).map fun (z : Nat) => (kidsAt (z : Int) i l).length).sum
theorem sumAt_all (m : Nat) : ∀ (l : List T6) (i : Nat), (∀ t ∈ l, t.fks.length = t.nf ∧ ∀ f ∈ t.fks, 0 ≤ f.b ∧ f.b < (m : Int)) → sumAt m i l = sumF l
  | [], i, _ => by
    unfold sumAt
    rw [List.sum_eq_zero_iff_forall_eq_nat.2]
    · rfl
    · intro x hx
      obtain ⟨z, _, rfl⟩ := List.mem_map.1 hx
      rfl
  | t :: l, i, h => by
    have h1 := sumAt_all m l (i + 1) (fun u hu => h u (List.mem_cons_of_mem _ hu))
    obtain ⟨h2, h3⟩ := h t (by simp)
    have h4 := sumRow_all i m t.fks 0 h3
    have h5 : sumAt m i (t :: l) = ((List.range m).map fun (z : Nat) => (kidsRow i (z : Int) 0 t.fks).length + (kidsAt (z : Int) (i + 1) l).length).sum := by
      unfold sumAt
      congr 1
      refine List.map_congr_left fun z _ => ?_
      simp [kidsAt]
    rw [h5, sum_add]
    unfold sumAt at h1
    unfold sumRow at h4
    rw [h1, h4, h2]
    simp [sumF]
theorem right_sum {w : World} {A : Option Addr} {n c : Nat} {l : List T6} (h : RdS w A n c l) (hr : rightE l = 0) : sumK l n = sumF l := by
  have := sumAt_all n l 0 (fun t ht => by
    refine ⟨(h.each t ht).fks.len, fun f hf => ?_⟩
    obtain ⟨k, hk, rfl⟩ := List.getElem_of_mem ht
    obtain ⟨j, hj, rfl⟩ := List.getElem_of_mem hf
    have h1 := (rightE_tab hr).2.2 k _ (List.getElem?_eq_getElem hk)
    have h2 := right_fk h1 (h.each _ ht).fks.len (List.getElem?_eq_getElem hj)
    rw [h.len] at h2
    exact ⟨h2.2.1, h2.2.2.1⟩)
  exact this
theorem sumF_le (l : List T6) : sumF l ≤ sumT l := by
  induction l with
  | nil => exact Nat.le_refl _
  | cons t l ih => simp only [sumF, sumT, List.map_cons, List.sum_cons, sizeT] at *; omega
theorem sumF_take_le (l : List T6) (k : Nat) : sumF (l.take k) ≤ sumF l := by
  conv => rhs; rw [← List.take_append_drop k l]
  simp only [sumF, List.map_append, List.sum_append]
  omega
theorem sumK_mono (l : List T6) {k n : Nat} (h : k ≤ n) : sumK l k ≤ sumK l n := by
  induction n with
  | zero => obtain rfl : k = 0 := by omega
            exact Nat.le_refl _
  | succ n ih =>
    by_cases hk : k = n + 1
    · subst hk; exact Nat.le_refl _
    · rw [sumK_succ]; have := ih (by omega); omega
end Go.Proofs.Ytogfnjlhfbpneaa
