/- Cells of a row: what a variable of that type holds, and a store of all of it. -/
import Derived.Test.YtlgpijdemfccaaaMbRowMem
import Derived.Test.YtlgpijdemfccaaaMbBase
namespace Go.Proofs.Ytlgpijdemfccaaa
set_option maxRecDepth 100000
open Go.RowKit

abbrev cellRow (k : Int) (v : V3) (s : Value) : Obj := .cells #[.int .i64 k, .int .i64 v.k, .int .i64 v.n, .string v.s, s] 26
abbrev valRow (v : V3) : Obj := .cells #[.int .i64 v.k, .int .i64 v.n, .string v.s] 23
abbrev cellV (k : Int) (v : V3) (s : Value) : Value := .agg #[.int .i64 k, .int .i64 v.k, .int .i64 v.n, .string v.s, s]
theorem cell_row5 {w : World} {g : Nat} {k : Int} {v : V3} {s : Value} (h : w.heap[g]? = some (cellRow k v s)) : w.cell? ⟨g, 0, none⟩ = some (.int .i64 k) ∧ w.cell? ⟨g, 1, none⟩ = some (.int .i64 v.k) ∧ w.cell? ⟨g, 2, none⟩ = some (.int .i64 v.n) ∧ w.cell? ⟨g, 3, none⟩ = some (.string v.s) ∧ w.cell? ⟨g, 4, none⟩ = some s := by
  have h2 := cell_row h
  refine ⟨?_, ?_, ?_, ?_, ?_⟩ <;> (rw [h2]; rfl)
theorem val_row {w : World} {g : Nat} {v : V3} (h : w.heap[g]? = some (valRow v)) : w.cell? ⟨g, 0, none⟩ = some (.int .i64 v.k) ∧ w.cell? ⟨g, 1, none⟩ = some (.int .i64 v.n) ∧ w.cell? ⟨g, 2, none⟩ = some (.string v.s) := by
  have h2 := cell_row h
  refine ⟨?_, ?_, ?_⟩ <;> (rw [h2]; rfl)

theorem set5 {w : World} {g : Nat} {a b c d e x y z u v : Value} {t : TypeId} {fr : Nat × Nat} (h : w.heap[g]? = some (.cells #[a, b, c, d, e] t fr)) :
    (((((w.setCell ⟨g, 0, none⟩ x).setCell ⟨g, 1, none⟩ y).setCell ⟨g, 2, none⟩ z).setCell ⟨g, 3, none⟩ u).setCell ⟨g, 4, none⟩ v).heap[g]? = some (.cells #[x, y, z, u, v] t fr) := by
  rw [set_row (set_row (set_row (set_row (set_row h 0 x) 1 y) 2 z) 3 u) 4 v]
  rfl

end Go.Proofs.Ytlgpijdemfccaaa

