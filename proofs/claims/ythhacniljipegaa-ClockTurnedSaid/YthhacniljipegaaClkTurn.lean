/- Layer 4: the order of stamps, and of stamps turned round, in plain mathematics: each place once, one order of what stands there. -/
import Derived.Test.YthhacniljipegaaClkOrd
import Derived.Test.YthhacniljipegaaStruct
import Derived.Test.YthhacniljipegaaRowMem
namespace Go.Proofs.Ythhacniljipegaa
set_option maxRecDepth 100000
open Go.RowKit Srt

/-- stands rightly ahead of -/
def rankP (l : List S3) (i j : Fin l.length) : Prop := ltP l i j = true ∨ (ltP l j i = false ∧ i < j)
theorem rankP_trans {l : List S3} (a b c : Fin l.length) : rankP l a b → rankP l b c → rankP l a c := by
  have h := ltP_weak l
  rintro (h1 | ⟨h1, h2⟩) (h3 | ⟨h3, h4⟩)
  · exact .inl (h.trans _ _ _ h1 h3)
  · refine .inl ?_
    cases hac : ltP l a c with
    | true => rfl
    | false => rw [h.neg a c b hac h3] at h1; cases h1
  · refine .inl ?_
    cases hac : ltP l a c with
    | true => rfl
    | false => rw [h.neg b a c h1 hac] at h3; cases h3
  · exact .inr ⟨h.neg _ _ _ h3 h1, Fin.lt_trans h2 h4⟩

theorem isort_rank_aux (l : List S3) : ∀ (r a : List (Fin l.length)), a.Pairwise (rankP l) → r.Pairwise (· < ·) → (∀ x ∈ a, ∀ y ∈ r, x < y) → (r.foldl (fun a x => merge (ltP l) a [x]) a).Pairwise (rankP l)
  | [], a, ha, _, _ => ha
  | y :: r, a, ha, hr, hx => by
    have hr' := List.pairwise_cons.1 hr
    rw [List.foldl_cons]
    refine isort_rank_aux l r _ (merge_ranked a [y] ?_ ?_ ha (List.pairwise_singleton _ _) rankP_trans) hr'.2 ?_
    · intro p hp q hq hlt
      obtain rfl : q = y := by simpa using hq
      exact .inr ⟨hlt, hx p hp q (by simp)⟩
    · intro p hp q hq hlt
      exact .inl hlt
    · intro p hp q hq
      rcases List.mem_append.1 ((merge_perm a [y]).subset hp) with hp | hp
      · exact hx p hp q (by simp [hq])
      · obtain rfl : p = y := by simpa using hp
        exact hr'.1 q hq
theorem ordP_rank (l : List S3) : (ordP l).Pairwise (rankP l) :=
  isort_rank_aux l _ [] List.Pairwise.nil (List.pairwise_lt_finRange _) (by simp)
theorem ordP_nodup (l : List S3) : (ordP l).Nodup := (isort_perm (lt := ltP l) (List.finRange l.length)).nodup_iff.2 (List.nodup_finRange _)

/-- the stamps, in order -/
def ordS (l : List S3) : List S3 := (ordP l).map fun i => l[i]
theorem ordS_perm (l : List S3) : (ordS l).Perm l := by
  have h := (isort_perm (lt := ltP l) (List.finRange l.length)).map (fun i : Fin l.length => l[i])
  have e : (List.finRange l.length).map (fun i : Fin l.length => l[i]) = l := by
    apply List.ext_getElem
    · simp
    · intro i h1 h2; simp
  rw [e] at h
  exact h
theorem lessS_eq {a b : S3} (h1 : lessS a b = false) (h2 : lessS b a = false) : a = b := by
  rw [lessS_no] at h1 h2
  exact s3_ext (by omega) (by omega) (by omega)
theorem ordS_sorted (l : List S3) : (ordS l).Pairwise fun a b => lessS b a = false := by
  rw [ordS, List.pairwise_map]
  exact isort_sorted (ltP_weak l) _
theorem ordS_rev (l : List S3) : ordS l.reverse = ordS l :=
  List.Perm.eq_of_pairwise (le := fun a b => lessS b a = false) (fun _ _ _ _ h1 h2 => lessS_eq h2 h1) (ordS_sorted _) (ordS_sorted _) ((ordS_perm _).trans ((List.reverse_perm l).trans (ordS_perm l).symm))

theorem ord_get (l : List S3) {i : Nat} (hi : i < l.length) : ∃ (p : Nat) (x : S3), (ordZ l)[i]? = some (p : Int) ∧ p < l.length ∧ l[p]? = some x ∧ (ordS l)[i]? = some x ∧ (∃ h : i < (ordP l).length, ((ordP l)[i]'h).val = p) := by
  have h : i < (ordP l).length := by rw [ordP_len]; exact hi
  refine ⟨(ordP l)[i].val, l[(ordP l)[i]], ?_, (ordP l)[i].isLt, ?_, ?_, h, rfl⟩
  · rw [ordZ, List.getElem?_map, List.getElem?_eq_getElem h]; rfl
  · exact List.getElem?_eq_getElem _
  · rw [ordS, List.getElem?_map, List.getElem?_eq_getElem h]; rfl

theorem turn_at (l : List S3) {i : Nat} (hi : i < l.length) : ∃ (p q : Nat) (x : S3), (ordZ l)[i]? = some (p : Int) ∧ (ordZ l.reverse)[i]? = some (q : Int) ∧ p < l.length ∧ q < l.length ∧ l[p]? = some x ∧ l.reverse[q]? = some x ∧ (∀ j, j < i → (ordZ l)[j]? ≠ some (p : Int)) := by
  obtain ⟨p, x, a1, a2, a3, a4, h, a5⟩ := ord_get l hi
  obtain ⟨q, y, b1, b2, b3, b4, _, _⟩ := ord_get l.reverse (i := i) (by simpa using hi)
  rw [ordS_rev, a4] at b4
  injection b4 with b4
  subst b4
  refine ⟨p, q, x, a1, b1, a2, by simpa using b2, a3, b3, fun j hj hjp => ?_⟩
  obtain ⟨p', x', c1, c2, c3, c4, h', c5⟩ := ord_get l (i := j) (by omega)
  rw [hjp] at c1
  injection c1 with c1
  have hpp : p = p' := by omega
  subst hpp
  have hn := ordP_nodup l
  rw [List.Nodup, List.pairwise_iff_getElem] at hn
  exact hn j i h' h hj (Fin.ext (by rw [c5, a5]))

theorem turn_two (l : List S3) {i : Nat} (hi : i + 1 < l.length) {p q : Nat} {x y : S3} (h1 : (ordZ l)[i]? = some (p : Int)) (h2 : (ordZ l)[i + 1]? = some (q : Int)) (h3 : l[p]? = some x) (h4 : l[q]? = some y) :
    lessS y x = false ∧ (x = y → p < q) := by
  obtain ⟨p', x', a1, a2, a3, _, ha, a5⟩ := ord_get l (i := i) (by omega)
  obtain ⟨q', y', b1, b2, b3, _, hb, b5⟩ := ord_get l (i := i + 1) hi
  rw [h1] at a1; injection a1 with a1
  rw [h2] at b1; injection b1 with b1
  obtain rfl : p = p' := by omega
  obtain rfl : q = q' := by omega
  rw [h3] at a3; injection a3 with a3; subst a3
  rw [h4] at b3; injection b3 with b3; subst b3
  have hr := List.pairwise_iff_getElem.1 (ordP_rank l) i (i + 1) ha hb (by omega)
  have ex : l[(ordP l)[i]'ha] = x := by
    have : l[((ordP l)[i]'ha).val]? = some x := by rw [a5]; exact h3
    rw [List.getElem?_eq_getElem ((ordP l)[i]'ha).isLt] at this
    injection this
  have ey : l[(ordP l)[i + 1]'hb] = y := by
    have : l[((ordP l)[i + 1]'hb).val]? = some y := by rw [b5]; exact h4
    rw [List.getElem?_eq_getElem ((ordP l)[i + 1]'hb).isLt] at this
    injection this
  unfold rankP ltP at hr
  rw [ex, ey] at hr
  rcases hr with hr | ⟨hr, hq⟩
  · exact ⟨lessS_weak.asym hr, fun e => by subst e; rw [lessS_weak.irr] at hr; cases hr⟩
  · refine ⟨hr, fun _ => ?_⟩
    have : ((ordP l)[i]'ha).val < ((ordP l)[i + 1]'hb).val := hq
    omega

/-- which places were met by the first k -/
def metBy (z : List Int) (k j : Nat) : Bool := (z.take k).contains (j : Int)
theorem metBy_zero (z : List Int) (j : Nat) : metBy z 0 j = false := by simp [metBy]
theorem metBy_new {z : List Int} {k p : Nat} (h : ∀ j, j < k → z[j]? ≠ some (p : Int)) : metBy z k p = false := by
  rw [metBy, Bool.eq_false_iff]
  intro hc
  have hm : (p : Int) ∈ z.take k := by simpa using hc
  obtain ⟨j, hj⟩ := List.mem_iff_getElem?.1 hm
  rw [List.getElem?_take] at hj
  split at hj
  · exact h j (by assumption) hj
  · cases hj
theorem metBy_step {z : List Int} {k p : Nat} (h : z[k]? = some (p : Int)) (j : Nat) : metBy z (k + 1) j = (metBy z k j || decide (j = p)) := by
  have hk : k < z.length := (List.getElem?_eq_some_iff.1 h).1
  have e : z.take (k + 1) = z.take k ++ [(p : Int)] := by rw [List.take_add_one, h]; rfl
  have hd : ((j : Int) == (p : Int)) = decide (j = p) := by
    by_cases hj : j = p
    · subst hj; simp
    · simp only [hj, decide_false]
      rw [beq_eq_false_iff_ne]; omega
  rw [metBy, metBy, e, List.contains_append]
  simp only [List.contains_cons, List.contains_nil, Bool.or_false, hd]

/-- a row of answers: which places were met -/
def Met (w : World) (g n : Nat) (z : List Int) (k : Nat) : Prop :=
  ∃ cs : Array Value, w.heap[g]? = some (.cells cs 4 (0, 0)) ∧ cs.size = n ∧ ∀ j, j < n → cs[j]? = some (.bool (metBy z k j))
theorem Met.cell {w : World} {g n k : Nat} {z : List Int} (h : Met w g n z k) {j : Nat} (hj : j < n) : w.cell? ⟨g, j, none⟩ = some (.bool (metBy z k j)) := by
  obtain ⟨cs, h1, h2, h3⟩ := h
  rw [cell_row h1, h3 j hj]
theorem Met.frozen {w : World} {g n k : Nat} {z : List Int} (h : Met w g n z k) (j : Nat) : w.frozen? ⟨g, j, none⟩ = false := by
  obtain ⟨cs, h1, h2, _⟩ := h
  exact frozen_row h1 _
theorem Met.below {w w' : World} {g n k : Nat} {z : List Int} (h : Met w g n z k) (hb : Below w.heap.size w w') : Met w' g n z k := by
  obtain ⟨cs, h1, h2⟩ := h
  exact ⟨cs, row_below h1 hb, h2⟩
theorem Met.put {w : World} {g n k p : Nat} {z : List Int} (h : Met w g n z k) (hz : z[k]? = some (p : Int)) (hp : p < n) : Met (w.setCell ⟨g, p, none⟩ (.bool true)) g n z (k + 1) := by
  obtain ⟨cs, h1, h2, h3⟩ := h
  refine ⟨_, set_row h1 _ _, by simpa using h2, fun j hj => ?_⟩
  rw [Array.getElem?_setIfInBounds, metBy_step hz]
  by_cases e : p = j
  · subst e; rw [if_pos rfl, if_pos (by omega)]; simp
  · rw [if_neg e, h3 j hj]
    have : decide (j = p) = false := by simp; omega
    rw [this, Bool.or_false]

theorem Try.infoStamp4 : (Try.prog.info? 23).map (fun i => (i.zero, i.size, i.bytes)) = some (some (.agg #[.int .i64 0, .int .i64 0, .int .i64 0]), 3, 24) := by kernel_rfl
theorem Try.infoBool4 : (Try.prog.info? 4).map (fun i => (i.zero, i.size, i.bytes)) = some (some (.bool false), 1, 1) := by kernel_rfl

/-- a stamp more, behind a row of the call's own -/
theorem wpList_pushS {w W0 : World} {ops : Array Oper} {rest : List Oper} {o : Oper} {a : Act} {Q : Exit → Act → World → Prop} (hgd : o.guard = none) (s x : Operand)
    (ho : o.op = .call { callee := .builtin .append, args := #[s, x], argTypes := #[31, 31] })
    (base : Nat) (v : Value) (n : Nat) (l : List S3) (u : S3) (g : Nat) (hg : w.heap.size = g) (hx : a.eval x = .slice (some ⟨g, 0, none⟩) 1 1)
    (hs : a.eval s = v) (hown : w.ownsRow base 23 3 v n (l.flatMap S3.cells)) (hn : n < 4294967296)
    (hbel : Below base W0 w) (hbase : base ≤ w.heap.size)
    (h : ∀ v' w', w'.ownsRow base 23 3 v' (n + 1) ((l ++ [u]).flatMap S3.cells) → Below base W0 w' → base ≤ w'.heap.size → wpList Try.prog ops Q rest (a.put o.dst v') w') :
    wpList Try.prog ops Q (o :: rest) a (w.alloc (.cells #[.int .i64 u.t, .int .i64 u.d, .int .i64 u.q] 23)) := by
  subst hg
  obtain ⟨i0, hi0, hz0, hz1, hz2⟩ := info_parts Try.infoStamp4
  refine wpList_append_own _ hgd s x 31 ho base 23 i0 _ 3 24 Try.underlying31 hi0 hz0 hz1 hz2 rfl (by omega) v n (l.flatMap S3.cells) hs (hown.alloc _) ⟨w.heap.size, 0, none⟩ 1 1 u.cells hx rfl ?_
    (by intro y hy; simp [S3.cells] at hy; rcases hy with rfl | rfl | rfl <;> rfl) (by simp only [maxLen]; omega) (by omega) (by simp; omega) ?_
  · intro j y hj
    have e : (⟨w.heap.size, 0, none⟩ : Addr).add j = ⟨w.heap.size, j, none⟩ := by unfold Addr.add; by_cases h0 : j = 0 <;> simp [h0]
    rw [e, cell_row (heap_alloc_new w _)]
    simpa [S3.cells] using hj
  intro v' w' hown' hgrow _
  refine h v' w' ?_ ?_ (by have := hgrow.size; simp at this; omega)
  · rw [List.flatMap_append]
    simpa using hown'
  · exact (hbel.alloc hbase _).grown hgrow (by simp; omega) (fun k hk => (hown.lt k hk).1)

/-- a new row of answers: none -/
theorem made_met (n : Nat) (z : List Int) (hn : n ≤ 17179869184) : ∃ Z : Array Value, Z.size = n ∧ (∀ j, j < n → Z[j]? = some (.bool (metBy z 0 j))) ∧ ∀ W : World, (Instr.makeSlice 40 (.int .i64 (n : Int)) (.int .i64 (n : Int))).run Try.prog W = .ok (.slice (some ⟨W.heap.size, 0, none⟩) n n) (W.alloc (.cells Z 4)) := by
  obtain ⟨i0, hi0, hz0, hz1, hz2⟩ := info_parts Try.infoBool4
  refine ⟨madeCells (Value.cells (.bool false)) n, size_madeCells _ _, fun j hj => ?_, fun W => ?_⟩
  · have e : (madeCells #[Value.bool false] n).toList = List.replicate n (.bool false) := toList_madeCells_one _ _
    rw [metBy_zero]
    show (madeCells #[Value.bool false] n)[j]? = _
    rw [← Array.getElem?_toList, e, List.getElem?_replicate, if_pos hj]
  · have := run_make (P := Try.prog) W 40 4 i0 _ Try.underlying40 hi0 hz0 .i64 .i64 n n (by omega) (by omega) (by rw [hz2]; omega) (by omega)
    rw [hz1] at this
    simpa using this
end Go.Proofs.Ythhacniljipegaa
