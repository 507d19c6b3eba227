/- Several texts laid together: KMem, KLay. -/
import Derived.Test.YtlgpijdemfccaaaRows
import Derived.Test.YtlgpijdemfccaaaMbBase
import Derived.Test.YtlgpijdemfccaaaMbSortS
import Derived.Shelf.SlSortCmp.KitK
namespace Go.Proofs.Ytlgpijdemfccaaa
set_option maxRecDepth 100000
open Go.RowKit Go.Sort
variable {α : Type}

/-- draws, and new blocks behind -/
def Grown (w w' : World) : Prop := ∃ n os, w' = grow (w.drewN n) os
theorem Grown.refl (w : World) : Grown w w := ⟨0, #[], by rw [grow_empty]; rfl⟩
theorem Grown.drewN {a w : World} (h : Grown a w) (k : Nat) : Grown a (w.drewN k) := by
  obtain ⟨n, os, rfl⟩ := h
  exact ⟨n + k, os, by show grow ((a.drewN n).drewN k) os = _; rw [World.drewN_drewN]⟩
theorem Grown.drew {a w : World} (h : Grown a w) : Grown a w.drew := h.drewN 1
theorem Grown.alloc {a w : World} (h : Grown a w) (o : Obj) : Grown a (w.alloc o) := by
  obtain ⟨n, os, rfl⟩ := h
  exact ⟨n, os ++ #[o], by rw [alloc_eq_grow, grow_grow]⟩
theorem Grown.grow {a w : World} (h : Grown a w) (os' : Array Obj) : Grown a (Sort.grow w os') := by
  obtain ⟨n, os, rfl⟩ := h
  exact ⟨n, os ++ os', by rw [grow_grow]⟩
theorem Grown.trans {a b c : World} (h : Grown a b) (k : Grown b c) : Grown a c := by
  obtain ⟨n, os, rfl⟩ := k
  exact (h.drewN n).grow os
theorem Grown.below {a w : World} (h : Grown a w) : Below a.heap.size a w := by
  obtain ⟨n, os, rfl⟩ := h
  refine ⟨rfl, rfl, rfl, ?_, fun k hk => ?_⟩
  · rw [size_grow]; exact Nat.le_add_right _ _
  · exact heap_grow_old _ _ hk
/-- as the walk of a drawn region asks for it -/
theorem Grown.of {P : Program} {f : FuncId} {args : Array Value} {w : World} {v : Value} {n : Nat} {os : Array Obj} (h : Calls P f args (Sort.grow (w.drewN n) os) fun e w' => e = .returned v ∧ Grown (Sort.grow (w.drewN n) os) w') :
    Calls P f args (Sort.grow (w.drewN n) os) fun e w' => e = .returned v ∧ ∃ q os', w' = Sort.grow ((Sort.grow (w.drewN n) os).drewN q) os' := h

/-- W is w0, but that the slice in block blk holds d, an element's k cells by enc -/
structure SwK (enc : α → List Value) (k : Nat) (w0 : World) (blk off : Nat) (d : List α) (W : World) : Prop where
  os : W.os = w0.os
  tape : W.tape = w0.tape
  output : W.output = w0.output
  size : w0.heap.size ≤ W.heap.size
  lt : blk < W.heap.size
  block : ∀ i, i < w0.heap.size → i ≠ blk → W.heap[i]? = w0.heap[i]?
  cell : ∀ j x, d[j]? = some x → ∀ i v, (enc x)[i]? = some v → W.cell? ⟨blk, off + j * k + i, none⟩ = some v
  frozen : ∀ j, j < d.length * k → W.frozen? ⟨blk, off + j, none⟩ = false

/-- what is known of the elements' cells -/
structure EncK (enc : α → List Value) (k : Nat) : Prop where
  len : ∀ x, (enc x).length = k
  one : ∀ x, ∀ v ∈ enc x, v.oneCell' = true

theorem setCells_os (b : Nat) : ∀ (vs : List Value) (o : Nat) (w : World), (w.setCells b o vs).os = w.os
  | [], _, _ => rfl
  | v :: r, o, w => by rw [World.setCells, setCells_os b r]; rfl
theorem setCells_tape (b : Nat) : ∀ (vs : List Value) (o : Nat) (w : World), (w.setCells b o vs).tape = w.tape
  | [], _, _ => rfl
  | v :: r, o, w => by rw [World.setCells, setCells_tape b r]; rfl
theorem setCells_output (b : Nat) : ∀ (vs : List Value) (o : Nat) (w : World), (w.setCells b o vs).output = w.output
  | [], _, _ => rfl
  | v :: r, o, w => by rw [World.setCells, setCells_output b r]; rfl
theorem setCells_block (b : Nat) : ∀ (vs : List Value) (o : Nat) (w : World) (j : Nat), j ≠ b → (w.setCells b o vs).heap[j]? = w.heap[j]?
  | [], _, _, _, _ => rfl
  | v :: r, o, w, j, h => by
    rw [World.setCells, setCells_block b r _ _ j h]
    show (w.heap.modify b _)[j]? = _
    rw [Array.getElem?_modify, if_neg (fun e => h e.symm)]

theorem blk_lt {i j k n : Nat} (h : j < n) (hi : i < k) : j * k + i < n * k := by
  have := Nat.mul_le_mul_right k (show j + 1 ≤ n from h)
  rw [Nat.add_mul, Nat.one_mul] at this
  omega
theorem blk_apart {i j k a b : Nat} (h : a ≠ b) (hi : i < k) (hj : j < k) : a * k + i ≠ b * k + j := by
  intro e
  rcases Nat.lt_or_gt_of_ne h with h | h
  · have := Nat.mul_le_mul_right k (show a + 1 ≤ b from h)
    rw [Nat.add_mul, Nat.one_mul] at this
    omega
  · have := Nat.mul_le_mul_right k (show b + 1 ≤ a from h)
    rw [Nat.add_mul, Nat.one_mul] at this
    omega

section
variable {enc : α → List Value} {k : Nat} {w0 : World} {blk off : Nat} {d : List α} {W W' : World}

theorem SwK.below (h : SwK enc k w0 blk off d W) (hb : Below W.heap.size W W') : SwK enc k w0 blk off d W' where
  os := hb.os.trans h.os
  tape := hb.tape.trans h.tape
  output := hb.output.trans h.output
  size := Nat.le_trans h.size hb.size
  lt := Nat.lt_of_lt_of_le h.lt hb.size
  block := fun k hk hne => (hb.block k (Nat.lt_of_lt_of_le hk h.size)).trans (h.block k hk hne)
  cell := fun j x hx i v hv => (hb.cell (p := ⟨blk, off + j * k + i, none⟩) h.lt).trans (h.cell j x hx i v hv)
  frozen := fun j hj => by
    have := h.frozen j hj
    simp only [World.frozen?, hb.block blk h.lt] at this ⊢
    exact this
theorem SwK.grown (h : SwK enc k w0 blk off d W) (n : Nat) (os : Array Obj) : SwK enc k w0 blk off d (grow (W.drewN n) os) := h.below (Grown.below ⟨n, os, rfl⟩)
theorem SwK.drewN (h : SwK enc k w0 blk off d W) (n : Nat) : SwK enc k w0 blk off d (W.drewN n) := h.below (Quiet.below _ ⟨n, rfl⟩)
theorem SwK.drew (h : SwK enc k w0 blk off d W) : SwK enc k w0 blk off d W.drew := h.drewN 1

theorem SwK.load (h : SwK enc k w0 blk off d W) (E : EncK enc k) (P : Program) {j : Nat} {x : α} (hx : d[j]? = some x) :
    Sem.run P (loadCellsFrom ⟨blk, off + j * k, none⟩ 0 k #[]) W = .ok (enc x).toArray W :=
  run_loadCellsFrom_list P _ _ _ k (E.len _) fun i v hv => by
    rw [Addr.add_lit]; exact h.cell j x hx i v hv

theorem SwK.store (h : SwK enc k w0 blk off d W) (E : EncK enc k) (P : Program) {j : Nat} (hj : j < d.length) (y : α) :
    Sem.run P (storeCells ⟨blk, off + j * k, none⟩ (enc y) 0) W = .ok () (W.setCells blk (off + j * k) (enc y)) := by
  have := run_storeCells_cells (P := P) blk (off + j * k) (enc y) 0 W (fun c hc => by
      rw [E.len] at hc
      have hx := List.getElem?_eq_getElem hj
      have hc2 : c < (enc d[j]).length := by rw [E.len]; exact hc
      rw [Nat.add_zero, h.cell j _ hx c _ (List.getElem?_eq_getElem hc2)]; rfl)
    (fun c hc => by
      rw [E.len] at hc
      rw [Nat.add_zero, Nat.add_assoc]; exact h.frozen _ (blk_lt hj hc)) (E.one _)
  rwa [Nat.add_zero] at this

theorem SwK.set (h : SwK enc k w0 blk off d W) (E : EncK enc k) {i : Nat} (hi : i < d.length) (x : α) : SwK enc k w0 blk off (d.set i x) (W.setCells blk (off + i * k) (enc x)) where
  os := by rw [setCells_os]; exact h.os
  tape := by rw [setCells_tape]; exact h.tape
  output := by rw [setCells_output]; exact h.output
  size := by rw [size_setCells]; exact h.size
  lt := by rw [size_setCells]; exact h.lt
  block := fun j hj hne => by rw [setCells_block _ _ _ _ _ hne]; exact h.block j hj hne
  cell := fun j y hy c v hv => by
    have hck : c < k := by have := (List.getElem?_eq_some_iff.1 hv).1; rwa [E.len] at this
    by_cases hj : i = j
    · subst hj
      rw [List.getElem?_set_self hi] at hy
      injection hy with hy
      subst hy
      have hc : c < (enc x).length := by rw [E.len]; exact hck
      rw [World.cell?_setCells_in blk (enc x) (off + i * k) W (fun q hq => by
        rw [E.len] at hq
        have hx := List.getElem?_eq_getElem hi
        have hc2 : q < (enc d[i]).length := by rw [E.len]; exact hq
        rw [h.cell i _ hx q _ (List.getElem?_eq_getElem hc2)]; rfl) c hc]
      rw [List.getElem?_eq_getElem hc] at hv
      exact hv
    · rw [List.getElem?_set_ne hj] at hy
      rw [World.cell?_setCells_out blk _ _ _ _ (fun _ _ => by
        rw [E.len]
        show off + j * k + c < off + i * k ∨ off + i * k + k ≤ off + j * k + c
        rcases Nat.lt_or_gt_of_ne hj with hl | hl
        · have := Nat.mul_le_mul_right k (show i + 1 ≤ j from hl)
          rw [Nat.add_mul, Nat.one_mul] at this
          right; omega
        · have := Nat.mul_le_mul_right k (show j + 1 ≤ i from hl)
          rw [Nat.add_mul, Nat.one_mul] at this
          left; omega)]
      exact h.cell j y hy c v hv
  frozen := fun j hj => by
    rw [World.frozen?_setCells]
    exact h.frozen j (by simpa using hj)

theorem SwK.swap (h : SwK enc k w0 blk off d W) (E : EncK enc k) {i j : Nat} {x y : α} (hi : i < d.length) (hj : j < d.length) :
    SwK enc k w0 blk off ((d.set i y).set j x) ((W.drew.setCells blk (off + i * k) (enc y)).setCells blk (off + j * k) (enc x)) :=
  (h.drew.set E hi y).set E (by simpa using hj) x
end

/-- what is asked of the comparison: wherever the sort stands, it tells by a number whether x is ahead of y, and turns nothing -/
def CmpK (P : Program) (g : Nat) (cb : Array Value) (enc : α → List Value) (k : Nat) (lt : α → α → Bool) (blk off n : Nat) (w0 : World) : Prop :=
  ∃ cf : α → α → Int, (∀ x y, decide (cf x y < 0) = lt x y) ∧ ∀ (d : List α) (W : World), d.length = n → SwK enc k w0 blk off d W → ∀ x y : α,
    Calls P g (#[.agg (enc x).toArray, .agg (enc y).toArray] ++ cb) W fun e W' => e = .returned (.int .i64 (cf x y)) ∧ Grown W W'

/-- the same, of two of which it is known how they stand -/
theorem CmpK.at {P : Program} {g : Nat} {cb : Array Value} {enc : α → List Value} {k : Nat} {lt : α → α → Bool} {blk off n : Nat} {w0 : World} (h : CmpK P g cb enc k lt blk off n w0) {x y : α} {b : Bool} (hb : lt x y = b) {d : List α} (hn : d.length = n)
    {W : World} (hW : SwK enc k w0 blk off d W) : ∃ r : Int, decide (r < 0) = b ∧ ∀ m os, Calls P g (#[.agg (enc x).toArray, .agg (enc y).toArray] ++ cb) (grow (W.drewN m) os) fun e w' => e = .returned (.int .i64 r) ∧ ∃ q os', w' = grow ((grow (W.drewN m) os).drewN q) os' := by
  obtain ⟨cf, h1, h2⟩ := h
  exact ⟨cf x y, by rw [h1, hb], fun m os => h2 d _ hn (hW.grown m os) x y⟩
end Go.Proofs.Ytlgpijdemfccaaa

namespace Go.Proofs.Ytlgpijdemfccaaa
set_option maxRecDepth 100000
open Go.RowKit Go.Sort

end Go.Proofs.Ytlgpijdemfccaaa

