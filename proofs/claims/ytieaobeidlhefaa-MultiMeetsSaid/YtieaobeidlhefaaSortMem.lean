/- A slice of numbers that is being sorted: what else lies in memory is as it was. And what is asked of the comparison. -/
import Derived.Test.YtieaobeidlhefaaRows
import Derived.Test.YtieaobeidlhefaaMem
import Derived.Test.YtieaobeidlhefaaSortMath
namespace Go.Proofs.Ytieaobeidlhefaa
set_option maxRecDepth 100000
open Go.RowKit
variable {α : Type}

/-- W is w0, but that the slice in block blk holds d -/
structure Sw (num : α → Int) (w0 : World) (blk off : Nat) (d : List α) (W : World) : Prop where
  os : W.os = w0.os
  tape : W.tape = w0.tape
  output : W.output = w0.output
  size : w0.heap.size ≤ W.heap.size
  lt : blk < W.heap.size
  block : ∀ k, k < w0.heap.size → k ≠ blk → W.heap[k]? = w0.heap[k]?
  cell : ∀ j x, d[j]? = some x → W.cell? ⟨blk, off + j, none⟩ = some (.int .i64 (num x))
  frozen : ∀ j, j < d.length → W.frozen? ⟨blk, off + j, none⟩ = false

section
variable {num : α → Int} {w0 : World} {blk off : Nat} {d : List α} {W W' : World}

theorem Sw.below (h : Sw num w0 blk off d W) (hb : Below W.heap.size W W') : Sw num w0 blk off d W' where
  os := hb.os.trans h.os
  tape := hb.tape.trans h.tape
  output := hb.output.trans h.output
  size := Nat.le_trans h.size hb.size
  lt := Nat.lt_of_lt_of_le h.lt hb.size
  block := fun k hk hne => (hb.block k (Nat.lt_of_lt_of_le hk h.size)).trans (h.block k hk hne)
  cell := fun j x hx => (hb.cell (p := ⟨blk, off + j, none⟩) h.lt).trans (h.cell j x hx)
  frozen := fun j hj => by
    have := h.frozen j hj
    simp only [World.frozen?, hb.block blk h.lt] at this ⊢
    exact this
theorem Sw.drewN (h : Sw num w0 blk off d W) (k : Nat) : Sw num w0 blk off d (W.drewN k) := h.below (Quiet.below _ ⟨k, rfl⟩)
theorem Sw.drew (h : Sw num w0 blk off d W) : Sw num w0 blk off d W.drew := h.drewN 1

theorem Sw.set (h : Sw num w0 blk off d W) {i : Nat} (hi : i < d.length) (x : α) : Sw num w0 blk off (d.set i x) (W.setCell ⟨blk, off + i, none⟩ (.int .i64 (num x))) where
  os := h.os
  tape := h.tape
  output := h.output
  size := by rw [World.size_setCell]; exact h.size
  lt := by rw [World.size_setCell]; exact h.lt
  block := fun k hk hne => by
    rw [← h.block k hk hne]
    show (W.heap.modify blk _)[k]? = _
    rw [Array.getElem?_modify, if_neg (fun e => hne e.symm)]
  cell := fun j y hy => by
    by_cases hj : i = j
    · subst hj
      rw [List.getElem?_set_self hi] at hy
      injection hy with hy
      subst hy
      exact World.cell?_setCell_same _ _ _ (h.cell i _ (List.getElem?_eq_getElem hi))
    · rw [List.getElem?_set_ne hj] at hy
      rw [World.cell?_setCell_other _ _ _ _ (by intro e; simp only [Addr.mk.injEq] at e; omega)]
      exact h.cell j y hy
  frozen := fun j hj => by
    rw [World.frozen?_setCell]
    exact h.frozen j (by simpa using hj)

theorem Sw.swap (h : Sw num w0 blk off d W) {i j : Nat} {x y : α} (hi : i < d.length) (hj : j < d.length) :
    Sw num w0 blk off ((d.set i y).set j x) ((W.setCell ⟨blk, off + i, none⟩ (.int .i64 (num y))).setCell ⟨blk, off + j, none⟩ (.int .i64 (num x))).drew :=
  ((h.set hi y).set (by simpa using hj) x).drew
/-- behind the first store of an exchange the second place still holds something -/
theorem Sw.second (h : Sw num w0 blk off d W) {i j : Nat} (hi : i < d.length) (hj : j < d.length) (v : Value) :
    ∃ u, (W.setCell ⟨blk, off + i, none⟩ v).cell? ⟨blk, off + j, none⟩ = some u := by
  by_cases e : i = j
  · subst e; exact ⟨v, World.cell?_setCell_same _ _ _ (h.cell i _ (List.getElem?_eq_getElem hi))⟩
  · exact ⟨_, (World.cell?_setCell_other _ _ _ _ (by intro e'; simp only [Addr.mk.injEq] at e'; omega)).trans (h.cell j _ (List.getElem?_eq_getElem hj))⟩
theorem Sw.frozen2 (h : Sw num w0 blk off d W) {i j : Nat} (hj : j < d.length) (v : Value) : (W.setCell ⟨blk, off + i, none⟩ v).frozen? ⟨blk, off + j, none⟩ = false := by
  rw [World.frozen?_setCell]; exact h.frozen j hj
end

/-- what is asked of the comparison: wherever the sort stands, it tells by a number whether x is ahead of y, and turns nothing -/
def CmpB (P : Program) (g : Nat) (cb : Array Value) (num : α → Int) (lt : α → α → Bool) (blk off n : Nat) (w0 : World) : Prop :=
  ∀ (d : List α) (W : World), d.length = n → Sw num w0 blk off d W → ∀ x y : α,
    Calls P g (#[.int .i64 (num x), .int .i64 (num y)] ++ cb) W fun e W' => ∃ r : Int, e = .returned (.int .i64 r) ∧ decide (r < 0) = lt x y ∧ Below W.heap.size W W'

/-- the same, of two of which it is known how they stand -/
theorem CmpB.at {P : Program} {g : Nat} {cb : Array Value} {num : α → Int} {lt : α → α → Bool} {blk off n : Nat} {w0 : World} (h : CmpB P g cb num lt blk off n w0) {x y : α} {b : Bool} (hb : lt x y = b) {d : List α} (hn : d.length = n) :
    ∀ W, Sw num w0 blk off d W → Calls P g (#[.int .i64 (num x), .int .i64 (num y)] ++ cb) W fun e W' => ∃ r : Int, e = .returned (.int .i64 r) ∧ decide (r < 0) = b ∧ Below W.heap.size W W' := by
  intro W hW
  rw [← hb]
  exact h d W hn hW x y

/-- two that stand side by side are exchanged -/
theorem swap_adj (P Q : List α) (x y : α) : ((P ++ y :: x :: Q).set (P.length + 1) y).set P.length x = P ++ x :: y :: Q := by
  simp
theorem swap_adj' (P Q : List α) (x y : α) : ((P ++ y :: x :: Q).set P.length x).set (P.length + 1) y = P ++ x :: y :: Q := by
  simp
end Go.Proofs.Ytieaobeidlhefaa
