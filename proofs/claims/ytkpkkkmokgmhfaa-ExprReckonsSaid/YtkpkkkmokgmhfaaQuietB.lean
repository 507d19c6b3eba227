/- A region that draws its order, whose own operations only read: one walk of the text's order, at the class of all worlds behind the region's own: callees may lay blocks, and write what is theirs. Of no program. -/
import Derived.Test.YtkpkkkmokgmhfaaMem
import Derived.Deep.QuietTactic
import Derived.Deep.RegionHeld3
import Derived.BigQuiet
namespace Go.Proofs.Ytkpkkkmokgmhfaa
set_option maxRecDepth 100000
open Go.RowKit

/-- a world behind w -/
structure BelowOf (w : World) where
  W : World
  h : Below w.heap.size w W
instance (w : World) : Inhabited (BelowOf w) := ⟨⟨w, Below.refl _ _⟩⟩
theorem wp_region_quiet_below {P : Program} {id : Nat} {Q : Exit → Act → World → Prop} {a : Act} {w : World} {l : List Oper} (hm : P.follows .mixedOrders = true) (hB : Region.lexB .any l.toArray = true)
    (h : wpQuiet P l.toArray (fun w' => ∃ p : BelowOf w, w' = p.W) (fun a' => ∀ w', (∃ p : BelowOf w, w' = p.W) → Q .normal a' w') l a) : (Code.region id l.toArray true).wp P Q a w :=
  wp_region_quiet (C := fun w' => ∃ p : BelowOf w, w' = p.W) hm hB ⟨⟨w.drew, (Below.refl _ _).drew⟩, rfl⟩ (by simpa using h)
theorem Calls.quiet_below {P : Program} {f : FuncId} {args : Array Value} {w : World} {p : BelowOf w} {v : Value}
    (h : Calls P f args p.W fun e w' => e = .returned v ∧ Below p.W.heap.size p.W w') : Calls P f args p.W fun e w'' => e = .returned v ∧ ∃ q : BelowOf w, w'' = q.W :=
  h.mono fun _ w' ⟨he, hb⟩ => ⟨he, ⟨w', below_then p.h hb⟩, rfl⟩
theorem BelowOf.cell {w : World} {a : Addr} {v : Value} (h : w.cell? a = some v) (p : BelowOf w) : p.W.cell? a = some v :=
  (p.h.cell (World.block_lt_of_cell? _ _ h)).trans h
/-- an operation that isn't wanted -/
theorem wpQuiet_pass {P : Program} {ops : Array Oper} {C : World → Prop} {Q : Act → Prop} {o : Oper} {l : List Oper} {a : Act} (h : Region.wanted o (yielded ops a.tmps) = false) (hq : wpQuiet P ops C Q l (a.put o.dst undef)) : wpQuiet P ops C Q (o :: l) a := by
  unfold wpQuiet
  rw [h]
  exact hq
end Go.Proofs.Ytkpkkkmokgmhfaa
