/-
  No cell of these rows narrows 'for every input' (looked for: loops, veiled, ifaces, maps, wideKeys, modest, calm, conditions, laid).
  DERIVED. THE GIVEN ROWS OF THIS SEAT. 5 by the template 'for every input the law returns true; each argument reads behind the call as it read before'; 0 by the template 'total and deterministic' (their statements: YtkmedgfoolbdaaaTotals.lean).
  GIVEN WITH THE SEED: the statements are not yours to turn. If you find one false, say at which input.
  Laid BY PROGRAM, IN A SANDBOX (cutbox-rows.mjs): the forced cells as the released guide's own fill.sh prints them over the translation a3dfeb02c92c3d4b… (all of the seat's roots in one cut). By AI agents, Wed Nov 11 2026. No macro, syntax, notation, axiom, sorry.
-/
import Derived.Test.YtkmedgfoolbdaaaChecked
import GoSem.Claim
import GoSem.ClaimJoined
import GoSem.ClaimMapViews
import Derived.JoinedTies
import Derived.KernelRfl
namespace Go.Proofs.Ytkmedgfoolbdaaa
/- THE CELL 'sum', in the pinned program and in every row, IS THE sha256 OF THE DUMP (.gsa) THAT YtkmedgfoolbdaaaProg.lean LOADS. Nothing in Lean hashes anything: it is a label: what it is worth is what the hold of that sum in a sandbox is worth. -/
noncomputable def Try.pinned : Pinned := { name := "ytkmedgfoolbdaaa", sum := "a3dfeb02c92c3d4b987d1611093c9fb9787e59f495769daa1b2cf117f3031a84", checked := Try.checked }
namespace Rows
def none {H : Type} : Left H := { results := [], args := [] }

/-- 'homesteadlaw06.MixTells': WHATEVER THE INPUT: true; the input reads as it did. -/
def mixTellsSpec : ChangeSpec := { name := "mixTells", fn := fun _ => fun
  | [d] => { results := [.lit (.bool true)], args := [d] }
  | _ => none }
def mixTellsRow : OpenClaim := { program := "ytkmedgfoolbdaaa", sum := "a3dfeb02c92c3d4b987d1611093c9fb9787e59f495769daa1b2cf117f3031a84", func := "homestead/homesteadlaw06.MixTells", spec := "mixTells", unfollowed := true, recurses := true, apart := false }
def MixTellsSaid : Prop := mixTellsRow.holds Try.pinned (OpenSpec.ofChange mixTellsSpec)

/-- ITS FALSE NEIGHBOUR: 'it returns false'. Refute it at one input. -/
def mixTellsWrong : ChangeSpec := { name := "mixTells", fn := fun _ => fun
  | [d] => { results := [.lit (.bool false)], args := [d] }
  | _ => none }
def MixTellsWrongFalsely : Prop := mixTellsRow.holds Try.pinned (OpenSpec.ofChange mixTellsWrong)

/-- 'homesteadlaw06.MixBytes': WHATEVER THE INPUT: true; the input reads as it did. -/
def mixBytesSpec : ChangeSpec := { name := "mixBytes", fn := fun _ => fun
  | [d1, d2] => { results := [.lit (.bool true)], args := [d1, d2] }
  | _ => none }
def mixBytesRow : OpenClaim := { program := "ytkmedgfoolbdaaa", sum := "a3dfeb02c92c3d4b987d1611093c9fb9787e59f495769daa1b2cf117f3031a84", func := "homestead/homesteadlaw06.MixBytes", spec := "mixBytes", unfollowed := true, recurses := true, apart := false }
def MixBytesSaid : Prop := mixBytesRow.holds Try.pinned (OpenSpec.ofChange mixBytesSpec)

/-- ITS FALSE NEIGHBOUR: 'it returns false'. Refute it at one input. -/
def mixBytesWrong : ChangeSpec := { name := "mixBytes", fn := fun _ => fun
  | [d1, d2] => { results := [.lit (.bool false)], args := [d1, d2] }
  | _ => none }
def MixBytesWrongFalsely : Prop := mixBytesRow.holds Try.pinned (OpenSpec.ofChange mixBytesWrong)

/-- 'homesteadlaw06.MixBack': WHATEVER THE INPUT: true; the input reads as it did. -/
def mixBackSpec : ChangeSpec := { name := "mixBack", fn := fun _ => fun
  | [d1, d2] => { results := [.lit (.bool true)], args := [d1, d2] }
  | _ => none }
def mixBackRow : OpenClaim := { program := "ytkmedgfoolbdaaa", sum := "a3dfeb02c92c3d4b987d1611093c9fb9787e59f495769daa1b2cf117f3031a84", func := "homestead/homesteadlaw06.MixBack", spec := "mixBack", unfollowed := true, recurses := true, apart := false }
def MixBackSaid : Prop := mixBackRow.holds Try.pinned (OpenSpec.ofChange mixBackSpec)

/-- ITS FALSE NEIGHBOUR: 'it returns false'. Refute it at one input. -/
def mixBackWrong : ChangeSpec := { name := "mixBack", fn := fun _ => fun
  | [d1, d2] => { results := [.lit (.bool false)], args := [d1, d2] }
  | _ => none }
def MixBackWrongFalsely : Prop := mixBackRow.holds Try.pinned (OpenSpec.ofChange mixBackWrong)

/-- 'homesteadlaw06.MixOther': WHATEVER THE INPUT: true; the input reads as it did. -/
def mixOtherSpec : ChangeSpec := { name := "mixOther", fn := fun _ => fun
  | [d1, d2, d3, d4, d5, d6] => { results := [.lit (.bool true)], args := [d1, d2, d3, d4, d5, d6] }
  | _ => none }
def mixOtherRow : OpenClaim := { program := "ytkmedgfoolbdaaa", sum := "a3dfeb02c92c3d4b987d1611093c9fb9787e59f495769daa1b2cf117f3031a84", func := "homestead/homesteadlaw06.MixOther", spec := "mixOther", unfollowed := true, recurses := true, apart := false }
def MixOtherSaid : Prop := mixOtherRow.holds Try.pinned (OpenSpec.ofChange mixOtherSpec)

/-- ITS FALSE NEIGHBOUR: 'it returns false'. Refute it at one input. -/
def mixOtherWrong : ChangeSpec := { name := "mixOther", fn := fun _ => fun
  | [d1, d2, d3, d4, d5, d6] => { results := [.lit (.bool false)], args := [d1, d2, d3, d4, d5, d6] }
  | _ => none }
def MixOtherWrongFalsely : Prop := mixOtherRow.holds Try.pinned (OpenSpec.ofChange mixOtherWrong)

/-- 'homesteadlaw06.MixParts': WHATEVER THE INPUT: true; the input reads as it did. -/
def mixPartsSpec : ChangeSpec := { name := "mixParts", fn := fun _ => fun
  | [d1, d2, d3] => { results := [.lit (.bool true)], args := [d1, d2, d3] }
  | _ => none }
def mixPartsRow : OpenClaim := { program := "ytkmedgfoolbdaaa", sum := "a3dfeb02c92c3d4b987d1611093c9fb9787e59f495769daa1b2cf117f3031a84", func := "homestead/homesteadlaw06.MixParts", spec := "mixParts", unfollowed := true, recurses := true, apart := false }
def MixPartsSaid : Prop := mixPartsRow.holds Try.pinned (OpenSpec.ofChange mixPartsSpec)

/-- ITS FALSE NEIGHBOUR: 'it returns false'. Refute it at one input. -/
def mixPartsWrong : ChangeSpec := { name := "mixParts", fn := fun _ => fun
  | [d1, d2, d3] => { results := [.lit (.bool false)], args := [d1, d2, d3] }
  | _ => none }
def MixPartsWrongFalsely : Prop := mixPartsRow.holds Try.pinned (OpenSpec.ofChange mixPartsWrong)

/- THE SECOND FORM. 'bulk': how many values and letters a reading holds, each counted each time it is reached (what is shared counts as often as it is met; a slice's spare places count too). A statement '..UptoSaid' is the law's where the arguments, and the package variables that the reading takes, are together of bulk at most 1048576: NARROWER than '..Said'. Prove '..Said' where nothing that the law and all that it calls make is longer than what came in: it says more and counts as full. Else prove '..UptoSaid'. A law counts once. -/
mutual
def uptoBulk {H : Type} : DataW H → Nat
  | .lit (.string bytes) => bytes.length + 1
  | .lit _ => 1
  | .nil => 1
  | .ptr d => uptoBulk d + 1
  | .slice elems spare => uptoBulkAll elems + uptoBulkAll spare + 1
  | .agg parts => uptoBulkAll parts + 1
  | .iface _ d => uptoBulk d + 1
  | .map entries => uptoBulkEntries entries + 1
  | .held _ => 1
def uptoBulkAll {H : Type} : List (DataW H) → Nat
  | [] => 0
  | d :: r => uptoBulk d + uptoBulkAll r
def uptoBulkEntries {H : Type} : List (Lit × DataW H) → Nat
  | [] => 0
  | x :: r => uptoBulkEntry x + uptoBulkEntries r
def uptoBulkEntry {H : Type} : Lit × DataW H → Nat
  | (.string bytes, d) => bytes.length + uptoBulk d + 1
  | (_, d) => uptoBulk d + 1
 end
def uptoSmall : (H : Type) → List (DataW H) → Bool := fun _ ds => decide (uptoBulkAll ds ≤ 1048576)
def OpenSpec.upto (s : _root_.Go.ChangeSpec) : _root_.Go.OpenSpec := { _root_.Go.OpenSpec.ofChange s with cond := some uptoSmall }

/-- 'homesteadlaw06.MixTells', WHERE WHAT IT READS IS OF BULK AT MOST 1048576: true; the input reads as it did. -/
def mixTellsUptoRow : OpenClaim := { program := "ytkmedgfoolbdaaa", sum := "a3dfeb02c92c3d4b987d1611093c9fb9787e59f495769daa1b2cf117f3031a84", func := "homestead/homesteadlaw06.MixTells", spec := "mixTells", unfollowed := true, recurses := true, apart := false, narrowed := true }
def MixTellsUptoSaid : Prop := mixTellsUptoRow.holds Try.pinned (OpenSpec.upto mixTellsSpec)

/-- 'homesteadlaw06.MixBytes', WHERE WHAT IT READS IS OF BULK AT MOST 1048576: true; the input reads as it did. -/
def mixBytesUptoRow : OpenClaim := { program := "ytkmedgfoolbdaaa", sum := "a3dfeb02c92c3d4b987d1611093c9fb9787e59f495769daa1b2cf117f3031a84", func := "homestead/homesteadlaw06.MixBytes", spec := "mixBytes", unfollowed := true, recurses := true, apart := false, narrowed := true }
def MixBytesUptoSaid : Prop := mixBytesUptoRow.holds Try.pinned (OpenSpec.upto mixBytesSpec)

/-- 'homesteadlaw06.MixBack', WHERE WHAT IT READS IS OF BULK AT MOST 1048576: true; the input reads as it did. -/
def mixBackUptoRow : OpenClaim := { program := "ytkmedgfoolbdaaa", sum := "a3dfeb02c92c3d4b987d1611093c9fb9787e59f495769daa1b2cf117f3031a84", func := "homestead/homesteadlaw06.MixBack", spec := "mixBack", unfollowed := true, recurses := true, apart := false, narrowed := true }
def MixBackUptoSaid : Prop := mixBackUptoRow.holds Try.pinned (OpenSpec.upto mixBackSpec)

/-- 'homesteadlaw06.MixOther', WHERE WHAT IT READS IS OF BULK AT MOST 1048576: true; the input reads as it did. -/
def mixOtherUptoRow : OpenClaim := { program := "ytkmedgfoolbdaaa", sum := "a3dfeb02c92c3d4b987d1611093c9fb9787e59f495769daa1b2cf117f3031a84", func := "homestead/homesteadlaw06.MixOther", spec := "mixOther", unfollowed := true, recurses := true, apart := false, narrowed := true }
def MixOtherUptoSaid : Prop := mixOtherUptoRow.holds Try.pinned (OpenSpec.upto mixOtherSpec)

/-- 'homesteadlaw06.MixParts', WHERE WHAT IT READS IS OF BULK AT MOST 1048576: true; the input reads as it did. -/
def mixPartsUptoRow : OpenClaim := { program := "ytkmedgfoolbdaaa", sum := "a3dfeb02c92c3d4b987d1611093c9fb9787e59f495769daa1b2cf117f3031a84", func := "homestead/homesteadlaw06.MixParts", spec := "mixParts", unfollowed := true, recurses := true, apart := false, narrowed := true }
def MixPartsUptoSaid : Prop := mixPartsUptoRow.holds Try.pinned (OpenSpec.upto mixPartsSpec)

end Rows
end Go.Proofs.Ytkmedgfoolbdaaa
