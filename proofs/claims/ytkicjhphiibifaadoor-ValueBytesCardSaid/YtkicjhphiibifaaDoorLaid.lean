/- The library's variables that the statements of layer 2 list: what the list gives the contracts, and a world in which it holds. -/
import Derived.Test.YtkicjhphiibifaaDoorTie
import Derived.Test.YtkicjhphiibifaaDoorLibs
import Derived.Test.YtkicjhphiibifaaDoorLaw
import Derived.Stop.LaidErr
import Derived.Lib.LaidTab
import Derived.Shelf.Vars
import Derived.LaidMore
import Derived.LaidHandle
import Derived.Deep.DeepHandedRow
import Derived.Deep.DeepWitnessRowRef
namespace Go.Proofs.YtkicjhphiibifaaDoor
set_option maxRecDepth 100000
open Go.ChangeShapes Go.WideShapes Go.RowKit

/-- the list, as the first row has it -/
abbrev laidL : List (String × DataW Unit) := Rows.valueTellsRow.laid

theorem powType : (Tryd.prog.globals[2]?).map (·.type) = some 102 := by kernel_rfl
theorem cellsPow : Tryd.prog.cellsOf 102 = 20 := by kernel_rfl
theorem cells64 : Tryd.prog.cellsOf 47 = 1 := by kernel_rfl
theorem powDatum : (Rows.laid_internal_strconv_uint64pow10 : DataW Unit) = Lib.tabData .u64 Lib.pow10Tab := by kernel_rfl
theorem synType : (Tryd.prog.globals[0]?).map (·.type) = some 61 := by kernel_rfl
theorem rngType : (Tryd.prog.globals[1]?).map (·.type) = some 61 := by kernel_rfl
theorem starErr : "*" ++ "errors.errorString" = "*errors.errorString" := by decide
theorem rowErr (u : TypeId) (h : Tryd.prog.typeName? 3 u = some "*errors.errorString") : u = 114 :=
  typeName_ptr_named (nm := "errors.errorString") (by rw [starErr]; kernel_rfl) (by kernel_rfl) (by decide) u (by rw [starErr]; exact h)
theorem cellsErr : Tryd.prog.cellsOf 116 = 1 := by kernel_rfl
theorem cellsStr : Tryd.prog.cellsOf 9 = 1 := by kernel_rfl

theorem laidMet_of {W : World} (h : laidMetH Tryd.prog laidL W) : laidMet Tryd.prog laidL W := h

theorem vars_of {W : World} (hL : laidMetH Tryd.prog laidL W) (hS : W.ShapedOpen Tryd.prog) : Vars W := by
  have h0 := laidMet_of hL
  have h2 := h0.tail.tail
  have h4 := h2.tail.tail
  have h5 := h4.tail
  refine ⟨?_, ?_, ?_, ?_, ?_⟩
  · have hs : (((begin Tryd.prog (fun _ _ => 0) default).world.heap[7]?).bind Obj.row?).isSome = true := by kernel_rfl
    obtain ⟨⟨zero, t⟩, hz⟩ := Option.isSome_iff_exists.1 hs
    obtain ⟨cs, hc, _⟩ := hS.1 7 zero t (by decide +kernel) hz
    exact (Array.getElem?_eq_some_iff.1 hc).1
  · have h2' : laidMet Tryd.prog (("internal/strconv.uint64pow10", Lib.tabData .u64 Lib.pow10Tab) :: laidL.tail.tail.tail) W := by
      rw [← powDatum]; exact h2
    exact Lib.tabIs_of_head gPow powType Tryd.underlying102 Tryd.underlying47 cells64 cellsPow h2'
  · obtain ⟨a, s, e, _⟩ := laid_sentinel h5 gSyn synType Tryd.underlying61 rowErr Tryd.underlying114 Tryd.underlying116 rfl rfl Tryd.underlying9 cellsErr cellsStr
    exact ⟨_, _, e⟩
  · obtain ⟨a, s, e, _⟩ := laid_sentinel h4 gRng rngType Tryd.underlying61 rowErr Tryd.underlying114 Tryd.underlying116 rfl rfl Tryd.underlying9 cellsErr cellsStr
    exact ⟨_, _, e⟩
  · exact cell_of_shapedOpen_int (zero := #[.int .i64 0]) (t := 3) hS (by decide +kernel) (by kernel_rfl) rfl (by kernel_rfl) (by kernel_rfl) Tryd.underlying3

/-- a world that meets the list: what the door's own run leaves, the pinned table laid in its place -/
noncomputable def laidWorld (os : Os) : World :=
  { World.doorLaid Tryd.prog 72 os with heap := (World.doorLaid Tryd.prog 72 os).heap.modify 4 fun
      | .cells _ t frozen => .cells (Go.Pinned.utf8FirstZ.map fun (z : Nat) => Value.int .u8 (z : Int)).toArray t frozen
      | o => o }
theorem laid_met (os : Os) (args : Array Value) : laidMet Tryd.prog laidL ((laidWorld os).forCall (fun _ _ => 0) ⟨#[], args, []⟩).memory :=
  laidMet_of_run' 8 (by kernel_rfl) (by kernel_rfl)
theorem laid_vars (os : Os) (args : Array Value) : ((laidWorld os).forCall (fun _ _ => 0) ⟨#[], args, []⟩).variablesRefB Tryd.prog = true := by kernel_rfl
theorem laid_begin (os : Os) (args : Array Value) : (((laidWorld os).forCall (fun _ _ => 0) ⟨#[], args, []⟩).heap.toList.drop Tryd.prog.globals.size).take ((begin Tryd.prog (fun _ _ => 0) default).world.heap.size - Tryd.prog.globals.size) =
    (begin Tryd.prog (fun _ _ => 0) default).world.heap.toList.drop Tryd.prog.globals.size := by kernel_rfl
end Go.Proofs.YtkicjhphiibifaaDoor
