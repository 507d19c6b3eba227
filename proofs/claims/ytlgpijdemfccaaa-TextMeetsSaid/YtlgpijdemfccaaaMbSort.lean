/- Several texts laid together: SortMath, SortMem, SortIns, SortRot. -/
import Derived.Test.YtlgpijdemfccaaaRows
import Derived.Test.YtlgpijdemfccaaaMbBase
import Derived.Deep.RegionHeld3
import Derived.Deep.QuietTactic
import Derived.BigRegion
import Derived.IntWalk
import Derived.Shelf.Abstract
namespace Go.Proofs.Ytlgpijdemfccaaa.Srt
variable {α : Type}

/-- what an order must bear: of a strict weak order -/
structure Weak (lt : α → α → Bool) : Prop where
  irr : ∀ a, lt a a = false
  trans : ∀ a b c, lt a b = true → lt b c = true → lt a c = true
  neg : ∀ a b c, lt a b = false → lt b c = false → lt a c = false

theorem Weak.asym {lt : α → α → Bool} (h : Weak lt) {a b : α} (hab : lt a b = true) : lt b a = false := by
  cases hb : lt b a with
  | false => rfl
  | true => have := h.trans a b a hab hb; rw [h.irr] at this; exact this.symm

/-- two lists, one behind the other, of the second what is ahead of the first's is put ahead -/
def merge (lt : α → α → Bool) : List α → List α → List α
  | [], v => v
  | u, [] => u
  | x :: u, y :: v => if lt y x then y :: merge lt (x :: u) v else x :: merge lt u (y :: v)
termination_by u v => u.length + v.length

def isort (lt : α → α → Bool) (l : List α) : List α := l.foldl (fun a x => merge lt a [x]) []

variable {lt : α → α → Bool}

@[simp] theorem merge_nil_left (v : List α) : merge lt [] v = v := by rw [merge]
@[simp] theorem merge_nil_right (u : List α) : merge lt u [] = u := by cases u <;> simp [merge]
theorem merge_cons (x y : α) (u v : List α) : merge lt (x :: u) (y :: v) = if lt y x then y :: merge lt (x :: u) v else x :: merge lt u (y :: v) := by
  rw [merge]

theorem merge_perm : ∀ (u v : List α), (merge lt u v).Perm (u ++ v)
  | [], v => by simp
  | u, [] => by simp
  | x :: u, y :: v => by
    rw [merge_cons]
    split
    · refine ((merge_perm (x :: u) v).cons y).trans ?_
      exact (List.perm_middle (l₁ := x :: u) (l₂ := v) (a := y)).symm
    · exact (merge_perm u (y :: v)).cons x
termination_by u v => u.length + v.length

theorem merge_len (u v : List α) : (merge lt u v).length = u.length + v.length := by
  rw [(merge_perm u v).length_eq, List.length_append]

theorem merge_assoc (h : Weak lt) : ∀ (a b c : List α), merge lt (merge lt a b) c = merge lt a (merge lt b c)
  | [], b, c => by simp
  | a, [], c => by simp
  | a, b, [] => by simp
  | x :: a, y :: b, z :: c => by
    by_cases hyx : lt y x = true
    · by_cases hzy : lt z y = true
      · have hzx := h.trans _ _ _ hzy hyx
        rw [merge_cons (lt := lt) y z b c, if_pos hzy, merge_cons (lt := lt) x z a, if_pos hzx, ← merge_assoc h (x :: a) (y :: b) c]
        rw [merge_cons (lt := lt) x y a b, if_pos hyx, merge_cons, if_pos hzy]
      · rw [merge_cons (lt := lt) y z b c, if_neg hzy, merge_cons (lt := lt) x y a b, if_pos hyx, merge_cons (lt := lt) x y a, if_pos hyx, merge_cons, if_neg hzy, merge_assoc h (x :: a) b (z :: c)]
    · by_cases hzx : lt z x = true
      · have hzy : lt z y = true := by
          cases hq : lt z y with
          | true => rfl
          | false =>
            have := h.neg z y x hq (by simpa using hyx)
            rw [this] at hzx; exact absurd hzx (by decide)
        rw [merge_cons (lt := lt) y z b c, if_pos hzy, merge_cons (lt := lt) x z a, if_pos hzx, ← merge_assoc h (x :: a) (y :: b) c]
        rw [merge_cons (lt := lt) x y a b, if_neg hyx, merge_cons, if_pos hzx]
      · have key : merge lt (x :: a) (merge lt (y :: b) (z :: c)) = x :: merge lt a (merge lt (y :: b) (z :: c)) := by
          rw [merge_cons (lt := lt) y z b c]
          by_cases hzy : lt z y = true
          · rw [if_pos hzy, merge_cons, if_neg hzx]
          · rw [if_neg hzy, merge_cons, if_neg hyx]
        rw [key, merge_cons (lt := lt) x y a b, if_neg hyx, merge_cons, if_neg hzx, merge_assoc h a (y :: b) (z :: c)]
termination_by a b c => a.length + b.length + c.length

theorem foldl_isort (h : Weak lt) (l : List α) : ∀ a, l.foldl (fun a x => merge lt a [x]) a = merge lt a (isort lt l) := by
  induction l with
  | nil => intro a; simp [isort]
  | cons x l ih =>
    intro a
    have h1 : isort lt (x :: l) = merge lt [x] (isort lt l) := by rw [← ih [x]]; simp [isort]
    rw [List.foldl_cons, ih, h1, merge_assoc h]

theorem isort_append (h : Weak lt) (a b : List α) : isort lt (a ++ b) = merge lt (isort lt a) (isort lt b) := by
  rw [isort, List.foldl_append, foldl_isort h]
  rfl

theorem isort_snoc (l : List α) (x : α) : isort lt (l ++ [x]) = merge lt (isort lt l) [x] := by
  rw [isort, List.foldl_append]
  rfl

theorem isort_perm_aux (l : List α) : ∀ a, (l.foldl (fun a x => merge lt a [x]) a).Perm (a ++ l) := by
  induction l with
  | nil => intro a; simp
  | cons x l ih =>
    intro a
    rw [List.foldl_cons]
    refine (ih _).trans (((merge_perm a [x]).append_right l).trans ?_)
    simp

theorem isort_perm (l : List α) : (isort lt l).Perm l := isort_perm_aux (lt := lt) l []

theorem isort_len (l : List α) : (isort lt l).length = l.length := (isort_perm l).length_eq

/-- none is ahead of one that stands ahead of it -/
def Sorted (lt : α → α → Bool) (l : List α) : Prop := l.Pairwise fun a b => lt b a = false

theorem merge_sorted (h : Weak lt) : ∀ (u v : List α), Sorted lt u → Sorted lt v → Sorted lt (merge lt u v)
  | [], v, _, hv => by simpa using hv
  | x :: u, [], hu, _ => by simpa using hu
  | x :: u, y :: v, hu, hv => by
    rw [merge_cons]
    have hu' := List.pairwise_cons.1 hu
    have hv' := List.pairwise_cons.1 hv
    split
    · rename_i hyx
      refine List.pairwise_cons.2 ⟨fun b hb => ?_, merge_sorted h (x :: u) v hu hv'.2⟩
      rcases List.mem_append.1 ((merge_perm (x :: u) v).subset hb) with hb | hb
      · have hyx' := h.asym hyx
        rcases List.mem_cons.1 hb with rfl | hb
        · exact hyx'
        · exact h.neg _ _ _ (hu'.1 b hb) hyx'
      · exact hv'.1 b hb
    · rename_i hyx
      have hyx' : lt y x = false := by simpa using hyx
      refine List.pairwise_cons.2 ⟨fun b hb => ?_, merge_sorted h u (y :: v) hu'.2 hv⟩
      rcases List.mem_append.1 ((merge_perm u (y :: v)).subset hb) with hb | hb
      · exact hu'.1 b hb
      · rcases List.mem_cons.1 hb with rfl | hb
        · exact hyx'
        · exact h.neg _ _ _ (hv'.1 b hb) hyx'
termination_by u v => u.length + v.length

theorem isort_sorted_aux (h : Weak lt) (l : List α) : ∀ a, Sorted lt a → Sorted lt (l.foldl (fun a x => merge lt a [x]) a) := by
  induction l with
  | nil => intro a ha; exact ha
  | cons x l ih => intro a ha; exact ih _ (merge_sorted h _ _ ha (List.pairwise_singleton _ _))

theorem isort_sorted (h : Weak lt) (l : List α) : Sorted lt (isort lt l) := isort_sorted_aux h l [] List.Pairwise.nil

/-- where each of both is parted fitly, the parts are merged for themselves -/
theorem merge_split : ∀ (u1 u2 v1 v2 : List α), (∀ u ∈ u1, ∀ v ∈ v2, lt v u = false) → (∀ v ∈ v1, ∀ u ∈ u2, lt v u = true) →
    merge lt (u1 ++ u2) (v1 ++ v2) = merge lt u1 v1 ++ merge lt u2 v2
  | [], u2, [], v2, _, _ => by simp
  | [], [], y :: v1, v2, _, _ => by simp
  | [], x :: u2, y :: v1, v2, h1, h2 => by
    have ih := merge_split [] (x :: u2) v1 v2 (by simp) (fun v hv u hu => h2 v (by simp [hv]) u hu)
    rw [List.nil_append, List.cons_append, merge_cons, if_pos (h2 y (by simp) x (by simp))]
    simpa using ih
  | x :: u1, u2, [], [], _, _ => by simp
  | x :: u1, u2, [], z :: v2, h1, h2 => by
    have ih := merge_split u1 u2 [] (z :: v2) (fun u hu v hv => h1 u (by simp [hu]) v hv) (by simp)
    have hz := h1 x (by simp) z (by simp)
    rw [List.nil_append, List.cons_append, merge_cons, if_neg (by simp [hz])]
    simpa using ih
  | x :: u1, u2, y :: v1, v2, h1, h2 => by
    rw [List.cons_append, List.cons_append, merge_cons, merge_cons]
    split
    · have ih := merge_split (x :: u1) u2 v1 v2 h1 (fun v hv u hu => h2 v (by simp [hv]) u hu)
      rw [← List.cons_append, ih]; rfl
    · have ih := merge_split u1 u2 (y :: v1) v2 (fun u hu v hv => h1 u (by simp [hu]) v hv) h2
      rw [← List.cons_append, ih]; rfl
termination_by u1 u2 v1 v2 => u1.length + u2.length + v1.length + v2.length

/-- one that is put behind all that it isn't ahead of -/
theorem merge_one (u1 u2 : List α) (x : α) (h1 : ∀ u ∈ u1, lt x u = false) (h2 : ∀ u ∈ u2, lt x u = true) : merge lt (u1 ++ u2) [x] = u1 ++ x :: u2 := by
  have := merge_split (lt := lt) u1 u2 [] [x] (fun u hu v hv => by simp at hv; subst hv; exact h1 u hu) (by simp)
  rw [List.nil_append] at this
  rw [this, merge_nil_right]
  cases u2 with
  | nil => simp
  | cons y u2 => rw [merge_cons, if_pos (h2 y (by simp)), merge_nil_right]

/-- .. and one that is put ahead of all that aren't ahead of it -/
theorem one_merge (v1 v2 : List α) (x : α) (h1 : ∀ v ∈ v1, lt v x = true) (h2 : ∀ v ∈ v2, lt v x = false) : merge lt [x] (v1 ++ v2) = v1 ++ x :: v2 := by
  have := merge_split (lt := lt) [] [x] v1 v2 (by simp) (fun v hv u hu => by simp at hu; subst hu; exact h1 v hv)
  rw [List.nil_append] at this
  rw [this, merge_nil_left]
  cases v2 with
  | nil => simp
  | cons y v2 => rw [merge_cons, if_neg (by simp [h2 y (by simp)]), merge_nil_left]

theorem Sorted.split {u v : List α} (h : Sorted lt (u ++ v)) : Sorted lt u ∧ Sorted lt v ∧ ∀ a ∈ u, ∀ b ∈ v, lt b a = false := List.pairwise_append.1 h

/-- the i-th part of s, sorted for itself -/
def part (lt : α → α → Bool) (s : Nat) (l : List α) (i : Nat) : List α := isort lt ((l.drop (i * s)).take s)
/-- m parts of s from the i-th one on, each sorted for itself -/
def parts (lt : α → α → Bool) (s : Nat) (l : List α) (i : Nat) : Nat → List α
  | 0 => []
  | m + 1 => part lt s l i ++ parts lt s l (i + 1) m

theorem part_len (s : Nat) (l : List α) (i : Nat) : (part lt s l i).length = min s (l.length - i * s) := by
  rw [part, isort_len, List.length_take, List.length_drop]
theorem part_none {s : Nat} {l : List α} {i : Nat} (h : l.length ≤ i * s) : part lt s l i = [] := by
  rw [part, List.drop_of_length_le h, List.take_nil]; rfl
theorem parts_none {s : Nat} {l : List α} : ∀ (m i : Nat), l.length ≤ i * s → parts lt s l i m = []
  | 0, _, _ => rfl
  | m + 1, i, h => by rw [parts, part_none h, parts_none m (i + 1) (by rw [Nat.succ_mul]; omega)]; rfl
theorem parts_snoc (s : Nat) (l : List α) : ∀ (m i : Nat), parts lt s l i (m + 1) = parts lt s l i m ++ part lt s l (i + m)
  | 0, i => by simp [parts]
  | m + 1, i => by
    rw [parts, parts_snoc s l m (i + 1), parts, List.append_assoc, show i + 1 + m = i + (m + 1) by omega]
theorem part_two (h : Weak lt) (s : Nat) (l : List α) (k : Nat) : merge lt (part lt s l (2 * k)) (part lt s l (2 * k + 1)) = part lt (2 * s) l k := by
  rw [part, part, part, ← isort_append h]
  congr 1
  rw [show 2 * k * s = k * (2 * s) by rw [Nat.mul_comm 2 k, Nat.mul_assoc], show (2 * k + 1) * s = k * (2 * s) + s by rw [Nat.succ_mul, Nat.mul_comm 2 k, Nat.mul_assoc]]
  rw [← List.drop_drop]
  generalize l.drop (k * (2 * s)) = q
  rw [show 2 * s = s + s by omega, List.take_add]
theorem part_last {s : Nat} {l : List α} {k : Nat} (h : l.length ≤ k * (2 * s) + s) : part lt s l (2 * k) = part lt (2 * s) l k := by
  rw [part, part, show 2 * k * s = k * (2 * s) by rw [Nat.mul_comm 2 k, Nat.mul_assoc]]
  rw [List.take_of_length_le (by rw [List.length_drop]; omega), List.take_of_length_le (by rw [List.length_drop]; omega)]
theorem parts_all {s : Nat} {l : List α} {m : Nat} (h : l.length ≤ s) (hm : 0 < m) : parts lt s l 0 m = isort lt l := by
  obtain ⟨m, rfl⟩ : ∃ q, m = q + 1 := ⟨m - 1, by omega⟩
  rw [parts, parts_none m 1 (by omega), part, Nat.zero_mul, List.drop_zero, List.take_of_length_le h, List.append_nil]
theorem parts_len_le (s : Nat) (l : List α) : ∀ (m i : Nat), (i + m) * s ≤ l.length → (parts lt s l i m).length = m * s
  | 0, i, _ => by simp [parts]
  | m + 1, i, h => by
    have h2 : (i + (m + 1)) * s = i * s + (m + 1) * s := Nat.add_mul _ _ _
    have h3 : (m + 1) * s = m * s + s := Nat.succ_mul _ _
    rw [parts, List.length_append, part_len, parts_len_le s l m (i + 1) (by rw [show i + 1 + m = i + (m + 1) by omega]; exact h)]
    omega
theorem part_sorted (h : Weak lt) (s : Nat) (l : List α) (i : Nat) : Sorted lt (part lt s l i) := isort_sorted h _

/-- sorting keeps as it stood what is alike: what is stood behind it by any rank that rises -/
theorem merge_ranked {r : α → α → Prop} : ∀ (u v : List α), (∀ a ∈ u, ∀ b ∈ v, lt b a = false → r a b) → (∀ a ∈ u, ∀ b ∈ v, lt b a = true → r b a) → u.Pairwise r → v.Pairwise r → (∀ a b c, r a b → r b c → r a c) → (merge lt u v).Pairwise r
  | [], v, _, _, _, hv, _ => by simpa using hv
  | x :: u, [], _, _, hu, _, _ => by simpa using hu
  | x :: u, y :: v, h1, h2, hu, hv, ht => by
    have hu' := List.pairwise_cons.1 hu
    have hv' := List.pairwise_cons.1 hv
    rw [merge_cons]
    split
    · rename_i hyx
      have hr := h2 x (by simp) y (by simp) hyx
      refine List.pairwise_cons.2 ⟨fun b hb => ?_, merge_ranked (x :: u) v (fun a ha b hb => h1 a ha b (by simp [hb])) (fun a ha b hb => h2 a ha b (by simp [hb])) hu hv'.2 ht⟩
      rcases List.mem_append.1 ((merge_perm (x :: u) v).subset hb) with hb | hb
      · rcases List.mem_cons.1 hb with rfl | hb
        · exact hr
        · exact ht _ _ _ hr (hu'.1 b hb)
      · exact hv'.1 b hb
    · rename_i hyx
      have hr := h1 x (by simp) y (by simp) (by simpa using hyx)
      refine List.pairwise_cons.2 ⟨fun b hb => ?_, merge_ranked u (y :: v) (fun a ha b hb => h1 a (by simp [ha]) b hb) (fun a ha b hb => h2 a (by simp [ha]) b hb) hu'.2 hv ht⟩
      rcases List.mem_append.1 ((merge_perm u (y :: v)).subset hb) with hb | hb
      · exact hu'.1 b hb
      · rcases List.mem_cons.1 hb with rfl | hb
        · exact hr
        · exact ht _ _ _ hr (hv'.1 b hb)
termination_by u v => u.length + v.length
end Go.Proofs.Ytlgpijdemfccaaa.Srt

namespace Go.Proofs.Ytlgpijdemfccaaa
set_option maxRecDepth 100000
open Go.RowKit
variable {α : Type}

/-- W is w0, but that the slice in block blk holds d -/
structure Sw (num : α → Int) (w0 : World) (blk off : Nat) (d : List α) (W : World) : Prop where
  os : W.os = w0.os
  tape : W.tape = w0.tape
  output : W.output = w0.output
  size : w0.heap.size ≤ W.heap.size
  lt : blk < W.heap.size
  block : ∀ k, k < w0.heap.size → k ≠ blk → W.heap[k]? = w0.heap[k]?
  cell : ∀ j x, d[j]? = some x → W.cell? ⟨blk, off + j, none⟩ = some (.int .i64 (num x))
  frozen : ∀ j, j < d.length → W.frozen? ⟨blk, off + j, none⟩ = false

section
variable {num : α → Int} {w0 : World} {blk off : Nat} {d : List α} {W W' : World}

theorem Sw.below (h : Sw num w0 blk off d W) (hb : Below W.heap.size W W') : Sw num w0 blk off d W' where
  os := hb.os.trans h.os
  tape := hb.tape.trans h.tape
  output := hb.output.trans h.output
  size := Nat.le_trans h.size hb.size
  lt := Nat.lt_of_lt_of_le h.lt hb.size
  block := fun k hk hne => (hb.block k (Nat.lt_of_lt_of_le hk h.size)).trans (h.block k hk hne)
  cell := fun j x hx => (hb.cell (p := ⟨blk, off + j, none⟩) h.lt).trans (h.cell j x hx)
  frozen := fun j hj => by
    have := h.frozen j hj
    simp only [World.frozen?, hb.block blk h.lt] at this ⊢
    exact this
theorem Sw.drewN (h : Sw num w0 blk off d W) (k : Nat) : Sw num w0 blk off d (W.drewN k) := h.below (Quiet.below _ ⟨k, rfl⟩)
theorem Sw.drew (h : Sw num w0 blk off d W) : Sw num w0 blk off d W.drew := h.drewN 1

theorem Sw.set (h : Sw num w0 blk off d W) {i : Nat} (hi : i < d.length) (x : α) : Sw num w0 blk off (d.set i x) (W.setCell ⟨blk, off + i, none⟩ (.int .i64 (num x))) where
  os := h.os
  tape := h.tape
  output := h.output
  size := by rw [World.size_setCell]; exact h.size
  lt := by rw [World.size_setCell]; exact h.lt
  block := fun k hk hne => by
    rw [← h.block k hk hne]
    show (W.heap.modify blk _)[k]? = _
    rw [Array.getElem?_modify, if_neg (fun e => hne e.symm)]
  cell := fun j y hy => by
    by_cases hj : i = j
    · subst hj
      rw [List.getElem?_set_self hi] at hy
      injection hy with hy
      subst hy
      exact World.cell?_setCell_same _ _ _ (h.cell i _ (List.getElem?_eq_getElem hi))
    · rw [List.getElem?_set_ne hj] at hy
      rw [World.cell?_setCell_other _ _ _ _ (by intro e; simp only [Addr.mk.injEq] at e; omega)]
      exact h.cell j y hy
  frozen := fun j hj => by
    rw [World.frozen?_setCell]
    exact h.frozen j (by simpa using hj)

theorem Sw.swap (h : Sw num w0 blk off d W) {i j : Nat} {x y : α} (hi : i < d.length) (hj : j < d.length) :
    Sw num w0 blk off ((d.set i y).set j x) ((W.setCell ⟨blk, off + i, none⟩ (.int .i64 (num y))).setCell ⟨blk, off + j, none⟩ (.int .i64 (num x))).drew :=
  ((h.set hi y).set (by simpa using hj) x).drew
/-- behind the first store of an exchange the second place still holds something -/
theorem Sw.second (h : Sw num w0 blk off d W) {i j : Nat} (hi : i < d.length) (hj : j < d.length) (v : Value) :
    ∃ u, (W.setCell ⟨blk, off + i, none⟩ v).cell? ⟨blk, off + j, none⟩ = some u := by
  by_cases e : i = j
  · subst e; exact ⟨v, World.cell?_setCell_same _ _ _ (h.cell i _ (List.getElem?_eq_getElem hi))⟩
  · exact ⟨_, (World.cell?_setCell_other _ _ _ _ (by intro e'; simp only [Addr.mk.injEq] at e'; omega)).trans (h.cell j _ (List.getElem?_eq_getElem hj))⟩
theorem Sw.frozen2 (h : Sw num w0 blk off d W) {i j : Nat} (hj : j < d.length) (v : Value) : (W.setCell ⟨blk, off + i, none⟩ v).frozen? ⟨blk, off + j, none⟩ = false := by
  rw [World.frozen?_setCell]; exact h.frozen j hj
end

/-- what is asked of the comparison: wherever the sort stands, it tells by a number whether x is ahead of y, and turns nothing -/
def CmpB (P : Program) (g : Nat) (cb : Array Value) (num : α → Int) (lt : α → α → Bool) (blk off n : Nat) (w0 : World) : Prop :=
  ∀ (d : List α) (W : World), d.length = n → Sw num w0 blk off d W → ∀ x y : α,
    Calls P g (#[.int .i64 (num x), .int .i64 (num y)] ++ cb) W fun e W' => ∃ r : Int, e = .returned (.int .i64 r) ∧ decide (r < 0) = lt x y ∧ Below W.heap.size W W'

/-- the same, of two of which it is known how they stand -/
theorem CmpB.at {P : Program} {g : Nat} {cb : Array Value} {num : α → Int} {lt : α → α → Bool} {blk off n : Nat} {w0 : World} (h : CmpB P g cb num lt blk off n w0) {x y : α} {b : Bool} (hb : lt x y = b) {d : List α} (hn : d.length = n) :
    ∀ W, Sw num w0 blk off d W → Calls P g (#[.int .i64 (num x), .int .i64 (num y)] ++ cb) W fun e W' => ∃ r : Int, e = .returned (.int .i64 r) ∧ decide (r < 0) = b ∧ Below W.heap.size W W' := by
  intro W hW
  rw [← hb]
  exact h d W hn hW x y

/-- two that stand side by side are exchanged -/
theorem swap_adj (P Q : List α) (x y : α) : ((P ++ y :: x :: Q).set (P.length + 1) y).set P.length x = P ++ x :: y :: Q := by
  simp
theorem swap_adj' (P Q : List α) (x y : α) : ((P ++ y :: x :: Q).set P.length x).set (P.length + 1) y = P ++ x :: y :: Q := by
  simp
end Go.Proofs.Ytlgpijdemfccaaa

namespace Go.Proofs.Ytlgpijdemfccaaa
set_option maxRecDepth 100000
open Go.RowKit Srt
variable {α : Type}

theorem sorted_upto {lt : α → α → Bool} (hw : Weak lt) {A : List α} {y x : α} (hs : Sorted lt (A ++ [y])) (h : lt x y = false) : ∀ u ∈ A ++ [y], lt x u = false := by
  intro u hu
  rcases List.mem_append.1 hu with hu | hu
  · exact hw.neg _ _ _ h ((List.pairwise_append.1 hs).2.2 u hu y (by simp))
  · simp at hu; subst hu; exact h

theorem list_last {A : List α} {m : Nat} (h : A.length = m + 1) : ∃ B y, A = B ++ [y] ∧ B.length = m := by
  refine ⟨A.dropLast, A.getLast (by intro e; rw [e] at h; simp at h), (List.dropLast_concat_getLast _).symm, by simp [h]⟩

theorem at_mid (P Q : List α) (x : α) {j : Nat} (h : P.length = j) : (P ++ x :: Q)[j]? = some x := by subst h; simp

end Go.Proofs.Ytlgpijdemfccaaa

namespace Go.Proofs.Ytlgpijdemfccaaa
set_option maxRecDepth 100000
open Go.RowKit Srt
variable {α : Type}

theorem swap_far (P Q R : List α) (x y : α) : ((P ++ x :: (Q ++ y :: R)).set P.length y).set (P.length + 1 + Q.length) x = P ++ y :: (Q ++ x :: R) := by
  rw [List.set_append_right _ _ (Nat.le_refl _), Nat.sub_self, List.set_cons_zero, List.set_append_right _ _ (by omega), show P.length + 1 + Q.length - P.length = Q.length + 1 by omega, List.set_cons_succ, List.set_append_right _ _ (Nat.le_refl _), Nat.sub_self, List.set_cons_zero]

end Go.Proofs.Ytlgpijdemfccaaa

