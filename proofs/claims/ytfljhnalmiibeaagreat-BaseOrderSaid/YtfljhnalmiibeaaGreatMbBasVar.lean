/- Layer 13: new variables within a region that draws its order. -/
import Derived.Test.YtfljhnalmiibeaaGreatMbBasLawM
namespace Go.Proofs.YtfljhnalmiibeaaGreat
set_option maxRecDepth 100000
open Go.RowKit
theorem heap_at13 {w : World} {o : Obj} {g : Nat} (h : w.heap.size = g) : (w.alloc o).heap[g]? = some o := by subst h; exact heap_alloc_new _ _
theorem heap_past13 {w : World} {o : Obj} {g : Nat} {x : Option Obj} (h : g < w.heap.size) (hx : w.heap[g]? = x) : (w.alloc o).heap[g]? = x := by rw [Below.heap_alloc _ _ _ h]; exact hx
theorem heap_drew13 {w : World} {g : Nat} {x : Option Obj} (hx : w.heap[g]? = x) : w.drew.heap[g]? = x := hx
theorem use_row13 {w w' : World} {g : Nat} {o : Obj} {C : Prop} (bb : Below w.heap.size w w') (h : w.heap[g]? = some o) (k : w'.heap[g]? = some o → g < w.heap.size → C) : C := k (row_below h bb) (Array.getElem?_eq_some_iff.1 h).1
theorem at_world13 {K : Act → World → Prop} {Q : Exit → Act → World → Prop} {a : Act} {Z : World} (i j : Nat) {g h : Nat} (_hi : a.tmps.getD i undef = .pointer (some ⟨g, 0, none⟩)) (_hj : a.tmps.getD j undef = .pointer (some ⟨h, 0, none⟩)) (F : Nat → Nat → World → Prop)
    (h1 : F g h Z) (h2 : ∀ Z', F g h Z' → Exit.then K Q .normal a Z') : Exit.then K Q .normal a Z := h2 Z h1
theorem base_alloc {w : World} {A : Option Addr} {n c : Nat} {b : List (List LQ)} (h : RdB w A n c b) (o : Obj) : RdB (w.alloc o) A n c b := h.below dataR_keeps (below_new (Below.refl _ _) _)
theorem base_set {w : World} {g : Nat} {v x : Value} {ty : TypeId} {A : Option Addr} {n c : Nat} {b : List (List LQ)} (h : RdB w A n c b) (hA : ∀ p, A = some p → p.block ≠ g) (hg : w.heap[g]? = some (.cells #[v] ty)) : RdB (w.setCell ⟨g, 0, none⟩ x) A n c b :=
  base_past h hA hg ((Agree.refl g (g + 1) w).put g 0 x ⟨Nat.le_refl _, Nat.lt_succ_self _⟩)
end Go.Proofs.YtfljhnalmiibeaaGreat

