/-
  NARROWER THAN 'FOR EVERY INPUT', by the rows' own cells (each row's printed sentence says how): ExprSays: loops · ExprTypes: loops · ExprSound: loops.
  DERIVED. THE GIVEN ROWS OF THIS SEAT. 4 by the template 'for every input the law returns true; each argument reads behind the call as it read before'; 0 by the template 'total and deterministic' (their statements: YtkpkkkmokgmhfaaTotals.lean).
  GIVEN WITH THE SEED: the statements are not yours to turn. If you find one false, say at which input.
  Laid BY PROGRAM, IN A SANDBOX (cutbox-rows.mjs): the forced cells as the released guide's own fill.sh prints them over the translation 3b64068e0a563ce6… (all of the seat's roots in one cut). By AI agents, Wed Nov 11 2026. No macro, syntax, notation, axiom, sorry.
-/
import Derived.Test.YtkpkkkmokgmhfaaChecked
import GoSem.Claim
import GoSem.ClaimJoined
import GoSem.ClaimMapViews
import Derived.JoinedTies
import Derived.KernelRfl
namespace Go.Proofs.Ytkpkkkmokgmhfaa
/- THE CELL 'sum', in the pinned program and in every row, IS THE sha256 OF THE DUMP (.gsa) THAT YtkpkkkmokgmhfaaProg.lean LOADS. Nothing in Lean hashes anything: it is a label: what it is worth is what the hold of that sum in a sandbox is worth. -/
noncomputable def Try.pinned : Pinned := { name := "ytkpkkkmokgmhfaa", sum := "3b64068e0a563ce6a9e019b10f7aec5624c2c4bc268e0843b254071e23da74dd", checked := Try.checked }
namespace Rows
def none {H : Type} : Left H := { results := [], args := [] }

/-- 'homesteadlaw12.ExprSays': WHATEVER THE INPUT: true; the input reads as it did. -/
def exprSaysSpec : ChangeSpec := { name := "exprSays", fn := fun _ => fun
  | [d1, d2] => { results := [.lit (.bool true)], args := [d1, d2] }
  | _ => none }
def exprSaysRow : OpenClaim := { program := "ytkpkkkmokgmhfaa", sum := "3b64068e0a563ce6a9e019b10f7aec5624c2c4bc268e0843b254071e23da74dd", func := "homestead/homesteadlaw12.ExprSays", spec := "exprSays", unfollowed := true, recurses := true, loops := true, apart := false }
def ExprSaysSaid : Prop := exprSaysRow.holds Try.pinned (OpenSpec.ofChange exprSaysSpec)

/-- ITS FALSE NEIGHBOUR: 'it returns false'. Refute it at one input. -/
def exprSaysWrong : ChangeSpec := { name := "exprSays", fn := fun _ => fun
  | [d1, d2] => { results := [.lit (.bool false)], args := [d1, d2] }
  | _ => none }
def ExprSaysWrongFalsely : Prop := exprSaysRow.holds Try.pinned (OpenSpec.ofChange exprSaysWrong)

/-- 'homesteadlaw12.ExprTypes': WHATEVER THE INPUT: true; the input reads as it did. -/
def exprTypesSpec : ChangeSpec := { name := "exprTypes", fn := fun _ => fun
  | [d1, d2, d3, d4] => { results := [.lit (.bool true)], args := [d1, d2, d3, d4] }
  | _ => none }
def exprTypesRow : OpenClaim := { program := "ytkpkkkmokgmhfaa", sum := "3b64068e0a563ce6a9e019b10f7aec5624c2c4bc268e0843b254071e23da74dd", func := "homestead/homesteadlaw12.ExprTypes", spec := "exprTypes", unfollowed := true, recurses := true, loops := true, apart := false }
def ExprTypesSaid : Prop := exprTypesRow.holds Try.pinned (OpenSpec.ofChange exprTypesSpec)

/-- ITS FALSE NEIGHBOUR: 'it returns false'. Refute it at one input. -/
def exprTypesWrong : ChangeSpec := { name := "exprTypes", fn := fun _ => fun
  | [d1, d2, d3, d4] => { results := [.lit (.bool false)], args := [d1, d2, d3, d4] }
  | _ => none }
def ExprTypesWrongFalsely : Prop := exprTypesRow.holds Try.pinned (OpenSpec.ofChange exprTypesWrong)

/-- 'homesteadlaw12.ExprSound': WHATEVER THE INPUT: true; the input reads as it did. -/
def exprSoundSpec : ChangeSpec := { name := "exprSound", fn := fun _ => fun
  | [d1, d2, d3] => { results := [.lit (.bool true)], args := [d1, d2, d3] }
  | _ => none }
def exprSoundRow : OpenClaim := { program := "ytkpkkkmokgmhfaa", sum := "3b64068e0a563ce6a9e019b10f7aec5624c2c4bc268e0843b254071e23da74dd", func := "homestead/homesteadlaw12.ExprSound", spec := "exprSound", unfollowed := true, recurses := true, loops := true, apart := false }
def ExprSoundSaid : Prop := exprSoundRow.holds Try.pinned (OpenSpec.ofChange exprSoundSpec)

/-- ITS FALSE NEIGHBOUR: 'it returns false'. Refute it at one input. -/
def exprSoundWrong : ChangeSpec := { name := "exprSound", fn := fun _ => fun
  | [d1, d2, d3] => { results := [.lit (.bool false)], args := [d1, d2, d3] }
  | _ => none }
def ExprSoundWrongFalsely : Prop := exprSoundRow.holds Try.pinned (OpenSpec.ofChange exprSoundWrong)

/-- 'homesteadlaw12.ExprReckons': WHATEVER THE INPUT: true; the input reads as it did. -/
def exprReckonsSpec : ChangeSpec := { name := "exprReckons", fn := fun _ => fun
  | [d1, d2, d3] => { results := [.lit (.bool true)], args := [d1, d2, d3] }
  | _ => none }
def exprReckonsRow : OpenClaim := { program := "ytkpkkkmokgmhfaa", sum := "3b64068e0a563ce6a9e019b10f7aec5624c2c4bc268e0843b254071e23da74dd", func := "homestead/homesteadlaw12.ExprReckons", spec := "exprReckons", unfollowed := true, recurses := true, apart := false }
def ExprReckonsSaid : Prop := exprReckonsRow.holds Try.pinned (OpenSpec.ofChange exprReckonsSpec)

/-- ITS FALSE NEIGHBOUR: 'it returns false'. Refute it at one input. -/
def exprReckonsWrong : ChangeSpec := { name := "exprReckons", fn := fun _ => fun
  | [d1, d2, d3] => { results := [.lit (.bool false)], args := [d1, d2, d3] }
  | _ => none }
def ExprReckonsWrongFalsely : Prop := exprReckonsRow.holds Try.pinned (OpenSpec.ofChange exprReckonsWrong)

/- THE SECOND FORM. 'bulk': how many values and letters a reading holds, each counted each time it is reached (what is shared counts as often as it is met; a slice's spare places count too). A statement '..UptoSaid' is the law's where the arguments, and the package variables that the reading takes, are together of bulk at most 1048576: NARROWER than '..Said'. Prove '..Said' where nothing that the law and all that it calls make is longer than what came in: it says more and counts as full. Else prove '..UptoSaid'. A law counts once. -/
mutual
def uptoBulk {H : Type} : DataW H → Nat
  | .lit (.string bytes) => bytes.length + 1
  | .lit _ => 1
  | .nil => 1
  | .ptr d => uptoBulk d + 1
  | .slice elems spare => uptoBulkAll elems + uptoBulkAll spare + 1
  | .agg parts => uptoBulkAll parts + 1
  | .iface _ d => uptoBulk d + 1
  | .map entries => uptoBulkEntries entries + 1
  | .held _ => 1
def uptoBulkAll {H : Type} : List (DataW H) → Nat
  | [] => 0
  | d :: r => uptoBulk d + uptoBulkAll r
def uptoBulkEntries {H : Type} : List (Lit × DataW H) → Nat
  | [] => 0
  | x :: r => uptoBulkEntry x + uptoBulkEntries r
def uptoBulkEntry {H : Type} : Lit × DataW H → Nat
  | (.string bytes, d) => bytes.length + uptoBulk d + 1
  | (_, d) => uptoBulk d + 1
 end
def uptoSmall : (H : Type) → List (DataW H) → Bool := fun _ ds => decide (uptoBulkAll ds ≤ 1048576)
def OpenSpec.upto (s : _root_.Go.ChangeSpec) : _root_.Go.OpenSpec := { _root_.Go.OpenSpec.ofChange s with cond := some uptoSmall }

/-- 'homesteadlaw12.ExprSays', WHERE WHAT IT READS IS OF BULK AT MOST 1048576: true; the input reads as it did. -/
def exprSaysUptoRow : OpenClaim := { program := "ytkpkkkmokgmhfaa", sum := "3b64068e0a563ce6a9e019b10f7aec5624c2c4bc268e0843b254071e23da74dd", func := "homestead/homesteadlaw12.ExprSays", spec := "exprSays", unfollowed := true, recurses := true, loops := true, apart := false, narrowed := true }
def ExprSaysUptoSaid : Prop := exprSaysUptoRow.holds Try.pinned (OpenSpec.upto exprSaysSpec)

/-- 'homesteadlaw12.ExprTypes', WHERE WHAT IT READS IS OF BULK AT MOST 1048576: true; the input reads as it did. -/
def exprTypesUptoRow : OpenClaim := { program := "ytkpkkkmokgmhfaa", sum := "3b64068e0a563ce6a9e019b10f7aec5624c2c4bc268e0843b254071e23da74dd", func := "homestead/homesteadlaw12.ExprTypes", spec := "exprTypes", unfollowed := true, recurses := true, loops := true, apart := false, narrowed := true }
def ExprTypesUptoSaid : Prop := exprTypesUptoRow.holds Try.pinned (OpenSpec.upto exprTypesSpec)

/-- 'homesteadlaw12.ExprSound', WHERE WHAT IT READS IS OF BULK AT MOST 1048576: true; the input reads as it did. -/
def exprSoundUptoRow : OpenClaim := { program := "ytkpkkkmokgmhfaa", sum := "3b64068e0a563ce6a9e019b10f7aec5624c2c4bc268e0843b254071e23da74dd", func := "homestead/homesteadlaw12.ExprSound", spec := "exprSound", unfollowed := true, recurses := true, loops := true, apart := false, narrowed := true }
def ExprSoundUptoSaid : Prop := exprSoundUptoRow.holds Try.pinned (OpenSpec.upto exprSoundSpec)

/-- 'homesteadlaw12.ExprReckons', WHERE WHAT IT READS IS OF BULK AT MOST 1048576: true; the input reads as it did. -/
def exprReckonsUptoRow : OpenClaim := { program := "ytkpkkkmokgmhfaa", sum := "3b64068e0a563ce6a9e019b10f7aec5624c2c4bc268e0843b254071e23da74dd", func := "homestead/homesteadlaw12.ExprReckons", spec := "exprReckons", unfollowed := true, recurses := true, apart := false, narrowed := true }
def ExprReckonsUptoSaid : Prop := exprReckonsUptoRow.holds Try.pinned (OpenSpec.upto exprReckonsSpec)

end Rows
end Go.Proofs.Ytkpkkkmokgmhfaa
