/- Layer 5: what two come to, one without noughts at its end, one with another number of a device: the code. -/
import Derived.Test.YtlgpijdemfccaaaMbVecHas
import Derived.Test.YtlgpijdemfccaaaMbMem2
import Derived.Laws.MakeOwn
import Derived.Laws.CopyOwn
namespace Go.Proofs.Ytlgpijdemfccaaa
set_option maxRecDepth 100000
open Go.RowKit

theorem Try.infoInt : (Try.prog.info? 3).map (fun i => (i.zero, i.size, i.bytes)) = some (some (.int .i64 0), 1, 8) := by kernel_rfl
/-- a row of numbers in a block of the call's own -/
abbrev RowI (w : World) (g : Nat) (z : List Int) : Prop := w.heap[g]? = some (.cells (vals .i64 z).toArray 3 (0, 0))
theorem rowI_cell {w : World} {g : Nat} {z : List Int} (h : RowI w g z) {k : Nat} (hk : k < z.length) : ∃ a, w.cell? ⟨g, k, none⟩ = some a := by
  rw [cell_row h]
  exact ⟨.int .i64 z[k], by simp [vals, List.getElem?_eq_getElem hk]⟩
theorem rowI_set {w : World} {g : Nat} {z : List Int} (h : RowI w g z) (k : Nat) (x : Int) : RowI (w.setCell ⟨g, k, none⟩ (.int .i64 x)) g (z.set k x) := by
  have := set_row h k (.int .i64 x)
  rw [RowI, this]
  congr 2
  simp [vals, List.map_set]
theorem rowI_rd {w : World} {g : Nat} {z : List Int} (h : RowI w g z) {n : Nat} (hn : z.length = n) (hm : n ≤ 17179869184) : Rd w (some ⟨g, 0, none⟩) n n (vals .i64 z) := by
  refine ⟨by simp [vals, hn], Nat.le_refl _, by simp only [maxLen]; omega, fun _ => ⟨g, 0, rfl, (Array.getElem?_eq_some_iff.1 h).1, fun j hj => ?_⟩⟩
  rw [cell_row h, Nat.zero_add, List.getElem?_toArray, List.getElem?_eq_getElem hj]
theorem row_set (f : Nat → Int) {N k : Nat} (h : k < N) : (rowV k f ++ List.replicate (N - k) 0).set k (f k) = rowV (k + 1) f ++ List.replicate (N - (k + 1)) 0 := by
  rw [List.set_append_right _ _ (by rw [rowV_len]; exact Nat.le_refl _), rowV_len, Nat.sub_self, show N - k = (N - (k + 1)) + 1 by omega, List.replicate_succ, List.set_cons_zero, rowV, rowV, List.range_succ, List.map_append, List.append_assoc]
  rfl

/-- what a closure over two numbers tells -/
def TellsI (P : Program) (g : Nat) (f : Int → Int → Int) : Prop :=
  ∀ (x y : Int) (W : World), Calls P g #[.int .i64 x, .int .i64 y] W fun e W' => e = .returned (.int .i64 (f x y)) ∧ W' = W

/-- one of the calls' own, or the like, trimmed by a cut -/
theorem rd_trim {w : World} {A : Option Addr} {n c : Nat} {z : List Int} (h : Rd w A n c (vals .i64 z)) : Rd w A (endV z) c (vals .i64 (trimV z)) := by
  have hl : z.length = n := by simpa using h.len
  have he := endV_le z
  have := h.upto (k := endV z) (m := c) (by omega) (by have := h.cap; omega) (Nat.le_refl c)
  simpa [vals, trimV] using this

end Go.Proofs.Ytlgpijdemfccaaa

