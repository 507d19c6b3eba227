/- Layer 5: what two come to, one without noughts at its end, one with another number of a device: the code. -/
import Derived.Test.YtomdbjmbkfdcmaaMbVecHas
import Derived.Test.YtomdbjmbkfdcmaaMbMem2
import Derived.Laws.MakeOwn
import Derived.Laws.CopyOwn
namespace Go.Proofs.Ytomdbjmbkfdcmaa
set_option maxRecDepth 100000
open Go.RowKit

theorem Try.infoInt : (Try.prog.info? 3).map (fun i => (i.zero, i.size, i.bytes)) = some (some (.int .i64 0), 1, 8) := by kernel_rfl
theorem made_vec (k : Nat) (hk : k ≤ 17179869184) (W : World) : (Instr.makeSlice 33 (.int .i64 (k : Int)) (.int .i64 (k : Int))).run Try.prog W = .ok (.slice (some ⟨W.heap.size, 0, none⟩) k k) (W.alloc (.cells (vals .i64 (List.replicate k 0)).toArray 3)) := by
  obtain ⟨i0, hi0, hz0, hz1, hz2⟩ := info_parts Try.infoInt
  have := run_make (P := Try.prog) W 33 3 i0 _ Try.underlying33 hi0 hz0 .i64 .i64 k k (by omega) (by omega) (by rw [hz2]; omega) (by omega)
  rw [hz1] at this
  have hZ : madeCells (Value.cells (.int .i64 0)) k = (vals .i64 (List.replicate k 0)).toArray := by
    apply Array.ext
    · simp [madeCells]
    · intro i h1 h2
      simp only [madeCells, Value.cells, Array.getElem_map, Array.getElem_range, List.getElem_toArray, vals, List.getElem_map, List.getElem_replicate]
      rw [show i % (#[Value.int IntKind.i64 0] : Array Value).size = 0 from Nat.mod_one i]
      rfl
  rw [← hZ]
  simpa using this
theorem made_vecs : ∃ Z : Nat → Array Value, Hid (∀ k, Z k = (vals .i64 (List.replicate k 0)).toArray) ∧ Hid (∀ k : Nat, k ≤ 17179869184 → ∀ W : World, (Instr.makeSlice 33 (.int .i64 (k : Int)) (.int .i64 (k : Int))).run Try.prog W = .ok (.slice (some ⟨W.heap.size, 0, none⟩) k k) (W.alloc (.cells (Z k) 3))) :=
  ⟨_, fun _ => rfl, fun k hk W => made_vec k hk W⟩
theorem run_uptoV {A : Option Addr} {n c m : Nat} (h : m ≤ c) (W : World) : (Instr.slice 33 (.slice A n c) none (some (.int .i64 m)) none).run Try.prog W = .ok (.slice A m c) W := by
  have hz : (sizeOf (Try.prog.elem 33)).run Try.prog W = .ok 1 W := by kernel_rfl
  have ht : Try.prog.underlying 33 = some (.slice (Try.prog.elem 33)) := by kernel_rfl
  rw [run_slice_h (P := Try.prog) (w := W) (t := 33) (a := A) (len := n) (cap := c) (ht := ht) (kh := .i64) (h := m) (h0 := by omega) (h2 := by omega), hz]
  have ha : A.map (·.add (0 * 1)) = A := by cases A <;> simp [Addr.add]
  simp only [Result.andThen, sliced, ha, Int.toNat_natCast, Nat.sub_zero, ite_self]

/-- a row of numbers in a block of the call's own -/
abbrev RowI (w : World) (g : Nat) (z : List Int) : Prop := w.heap[g]? = some (.cells (vals .i64 z).toArray 3 (0, 0))
theorem rowI_cell {w : World} {g : Nat} {z : List Int} (h : RowI w g z) {k : Nat} (hk : k < z.length) : ∃ a, w.cell? ⟨g, k, none⟩ = some a := by
  rw [cell_row h]
  exact ⟨.int .i64 z[k], by simp [vals, List.getElem?_eq_getElem hk]⟩
theorem rowI_set {w : World} {g : Nat} {z : List Int} (h : RowI w g z) (k : Nat) (x : Int) : RowI (w.setCell ⟨g, k, none⟩ (.int .i64 x)) g (z.set k x) := by
  have := set_row h k (.int .i64 x)
  rw [RowI, this]
  congr 2
  simp [vals, List.map_set]
theorem rowI_rd {w : World} {g : Nat} {z : List Int} (h : RowI w g z) {n : Nat} (hn : z.length = n) (hm : n ≤ 17179869184) : Rd w (some ⟨g, 0, none⟩) n n (vals .i64 z) := by
  refine ⟨by simp [vals, hn], Nat.le_refl _, by simp only [maxLen]; omega, fun _ => ⟨g, 0, rfl, (Array.getElem?_eq_some_iff.1 h).1, fun j hj => ?_⟩⟩
  rw [cell_row h, Nat.zero_add, List.getElem?_toArray, List.getElem?_eq_getElem hj]
theorem row_set (f : Nat → Int) {N k : Nat} (h : k < N) : (rowV k f ++ List.replicate (N - k) 0).set k (f k) = rowV (k + 1) f ++ List.replicate (N - (k + 1)) 0 := by
  rw [List.set_append_right _ _ (by rw [rowV_len]; exact Nat.le_refl _), rowV_len, Nat.sub_self, show N - k = (N - (k + 1)) + 1 by omega, List.replicate_succ, List.set_cons_zero, rowV, rowV, List.range_succ, List.map_append, List.append_assoc]
  rfl

/-- what a closure over two numbers tells -/
def TellsI (P : Program) (g : Nat) (f : Int → Int → Int) : Prop :=
  ∀ (x y : Int) (W : World), Calls P g #[.int .i64 x, .int .i64 y] W fun e W' => e = .returned (.int .i64 (f x y)) ∧ W' = W

/-- one of the calls' own, or the like, trimmed by a cut -/
theorem rd_trim {w : World} {A : Option Addr} {n c : Nat} {z : List Int} (h : Rd w A n c (vals .i64 z)) : Rd w A (endV z) c (vals .i64 (trimV z)) := by
  have hl : z.length = n := by simpa using h.len
  have he := endV_le z
  have := h.upto (k := endV z) (m := c) (by omega) (by have := h.cap; omega) (Nat.le_refl c)
  simpa [vals, trimV] using this

end Go.Proofs.Ytomdbjmbkfdcmaa

