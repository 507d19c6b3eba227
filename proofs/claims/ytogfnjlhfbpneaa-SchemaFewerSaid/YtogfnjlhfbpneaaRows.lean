/-
  NARROWER THAN 'FOR EVERY INPUT', by the rows' own cells (each row's printed sentence says how): SchemaRight: loops · SchemaFinds: loops · SchemaEach: loops · SchemaKids: loops · SchemaFewer: loops · SchemaAhead: loops.
  DERIVED. THE GIVEN ROWS OF THIS SEAT. 7 by the template 'for every input the law returns true; each argument reads behind the call as it read before'; 0 by the template 'total and deterministic' (their statements: YtogfnjlhfbpneaaTotals.lean).
  GIVEN WITH THE SEED: the statements are not yours to turn. If you find one false, say at which input.
  Laid BY PROGRAM, IN A SANDBOX (cutbox-rows.mjs): the forced cells as the released guide's own fill.sh prints them over the translation 1a44508ec8f95468… (all of the seat's roots in one cut). By AI agents, Wed Nov 11 2026. No macro, syntax, notation, axiom, sorry.
-/
import Derived.Test.YtogfnjlhfbpneaaChecked
import GoSem.Claim
import GoSem.ClaimJoined
import GoSem.ClaimMapViews
import Derived.JoinedTies
import Derived.KernelRfl
namespace Go.Proofs.Ytogfnjlhfbpneaa
/- THE CELL 'sum', in the pinned program and in every row, IS THE sha256 OF THE DUMP (.gsa) THAT YtogfnjlhfbpneaaProg.lean LOADS. Nothing in Lean hashes anything: it is a label: what it is worth is what the hold of that sum in a sandbox is worth. -/
noncomputable def Try.pinned : Pinned := { name := "ytogfnjlhfbpneaa", sum := "1a44508ec8f954680edd7ab5db3771f247a446e5c11a4baf2c646559def52edc", checked := Try.checked }
namespace Rows
def none {H : Type} : Left H := { results := [], args := [] }

/-- 'homesteadlaw11.SchemaNames': WHATEVER THE INPUT: true; the input reads as it did. -/
def schemaNamesSpec : ChangeSpec := { name := "schemaNames", fn := fun _ => fun
  | [d] => { results := [.lit (.bool true)], args := [d] }
  | _ => none }
def schemaNamesRow : OpenClaim := { program := "ytogfnjlhfbpneaa", sum := "1a44508ec8f954680edd7ab5db3771f247a446e5c11a4baf2c646559def52edc", func := "homestead/homesteadlaw11.SchemaNames", spec := "schemaNames", unfollowed := true, recurses := true, apart := false }
def SchemaNamesSaid : Prop := schemaNamesRow.holds Try.pinned (OpenSpec.ofChange schemaNamesSpec)

/-- ITS FALSE NEIGHBOUR: 'it returns false'. Refute it at one input. -/
def schemaNamesWrong : ChangeSpec := { name := "schemaNames", fn := fun _ => fun
  | [d] => { results := [.lit (.bool false)], args := [d] }
  | _ => none }
def SchemaNamesWrongFalsely : Prop := schemaNamesRow.holds Try.pinned (OpenSpec.ofChange schemaNamesWrong)

/-- 'homesteadlaw11.SchemaRight': WHATEVER THE INPUT: true; the input reads as it did. -/
def schemaRightSpec : ChangeSpec := { name := "schemaRight", fn := fun _ => fun
  | [d] => { results := [.lit (.bool true)], args := [d] }
  | _ => none }
def schemaRightRow : OpenClaim := { program := "ytogfnjlhfbpneaa", sum := "1a44508ec8f954680edd7ab5db3771f247a446e5c11a4baf2c646559def52edc", func := "homestead/homesteadlaw11.SchemaRight", spec := "schemaRight", unfollowed := true, recurses := true, loops := true, apart := false }
def SchemaRightSaid : Prop := schemaRightRow.holds Try.pinned (OpenSpec.ofChange schemaRightSpec)

/-- ITS FALSE NEIGHBOUR: 'it returns false'. Refute it at one input. -/
def schemaRightWrong : ChangeSpec := { name := "schemaRight", fn := fun _ => fun
  | [d] => { results := [.lit (.bool false)], args := [d] }
  | _ => none }
def SchemaRightWrongFalsely : Prop := schemaRightRow.holds Try.pinned (OpenSpec.ofChange schemaRightWrong)

/-- 'homesteadlaw11.SchemaFinds': WHATEVER THE INPUT: true; the input reads as it did. -/
def schemaFindsSpec : ChangeSpec := { name := "schemaFinds", fn := fun _ => fun
  | [d1, d2, d3] => { results := [.lit (.bool true)], args := [d1, d2, d3] }
  | _ => none }
def schemaFindsRow : OpenClaim := { program := "ytogfnjlhfbpneaa", sum := "1a44508ec8f954680edd7ab5db3771f247a446e5c11a4baf2c646559def52edc", func := "homestead/homesteadlaw11.SchemaFinds", spec := "schemaFinds", unfollowed := true, recurses := true, loops := true, apart := false }
def SchemaFindsSaid : Prop := schemaFindsRow.holds Try.pinned (OpenSpec.ofChange schemaFindsSpec)

/-- ITS FALSE NEIGHBOUR: 'it returns false'. Refute it at one input. -/
def schemaFindsWrong : ChangeSpec := { name := "schemaFinds", fn := fun _ => fun
  | [d1, d2, d3] => { results := [.lit (.bool false)], args := [d1, d2, d3] }
  | _ => none }
def SchemaFindsWrongFalsely : Prop := schemaFindsRow.holds Try.pinned (OpenSpec.ofChange schemaFindsWrong)

/-- 'homesteadlaw11.SchemaEach': WHATEVER THE INPUT: true; the input reads as it did. -/
def schemaEachSpec : ChangeSpec := { name := "schemaEach", fn := fun _ => fun
  | [d] => { results := [.lit (.bool true)], args := [d] }
  | _ => none }
def schemaEachRow : OpenClaim := { program := "ytogfnjlhfbpneaa", sum := "1a44508ec8f954680edd7ab5db3771f247a446e5c11a4baf2c646559def52edc", func := "homestead/homesteadlaw11.SchemaEach", spec := "schemaEach", unfollowed := true, recurses := true, loops := true, apart := false }
def SchemaEachSaid : Prop := schemaEachRow.holds Try.pinned (OpenSpec.ofChange schemaEachSpec)

/-- ITS FALSE NEIGHBOUR: 'it returns false'. Refute it at one input. -/
def schemaEachWrong : ChangeSpec := { name := "schemaEach", fn := fun _ => fun
  | [d] => { results := [.lit (.bool false)], args := [d] }
  | _ => none }
def SchemaEachWrongFalsely : Prop := schemaEachRow.holds Try.pinned (OpenSpec.ofChange schemaEachWrong)

/-- 'homesteadlaw11.SchemaKids': WHATEVER THE INPUT: true; the input reads as it did. -/
def schemaKidsSpec : ChangeSpec := { name := "schemaKids", fn := fun _ => fun
  | [d] => { results := [.lit (.bool true)], args := [d] }
  | _ => none }
def schemaKidsRow : OpenClaim := { program := "ytogfnjlhfbpneaa", sum := "1a44508ec8f954680edd7ab5db3771f247a446e5c11a4baf2c646559def52edc", func := "homestead/homesteadlaw11.SchemaKids", spec := "schemaKids", unfollowed := true, recurses := true, loops := true, apart := false }
def SchemaKidsSaid : Prop := schemaKidsRow.holds Try.pinned (OpenSpec.ofChange schemaKidsSpec)

/-- ITS FALSE NEIGHBOUR: 'it returns false'. Refute it at one input. -/
def schemaKidsWrong : ChangeSpec := { name := "schemaKids", fn := fun _ => fun
  | [d] => { results := [.lit (.bool false)], args := [d] }
  | _ => none }
def SchemaKidsWrongFalsely : Prop := schemaKidsRow.holds Try.pinned (OpenSpec.ofChange schemaKidsWrong)

/-- 'homesteadlaw11.SchemaFewer': WHATEVER THE INPUT: true; the input reads as it did. -/
def schemaFewerSpec : ChangeSpec := { name := "schemaFewer", fn := fun _ => fun
  | [d1, d2] => { results := [.lit (.bool true)], args := [d1, d2] }
  | _ => none }
def schemaFewerRow : OpenClaim := { program := "ytogfnjlhfbpneaa", sum := "1a44508ec8f954680edd7ab5db3771f247a446e5c11a4baf2c646559def52edc", func := "homestead/homesteadlaw11.SchemaFewer", spec := "schemaFewer", unfollowed := true, recurses := true, loops := true, apart := false }
def SchemaFewerSaid : Prop := schemaFewerRow.holds Try.pinned (OpenSpec.ofChange schemaFewerSpec)

/-- ITS FALSE NEIGHBOUR: 'it returns false'. Refute it at one input. -/
def schemaFewerWrong : ChangeSpec := { name := "schemaFewer", fn := fun _ => fun
  | [d1, d2] => { results := [.lit (.bool false)], args := [d1, d2] }
  | _ => none }
def SchemaFewerWrongFalsely : Prop := schemaFewerRow.holds Try.pinned (OpenSpec.ofChange schemaFewerWrong)

/-- 'homesteadlaw11.SchemaAhead': WHATEVER THE INPUT: true; the input reads as it did. -/
def schemaAheadSpec : ChangeSpec := { name := "schemaAhead", fn := fun _ => fun
  | [d1, d2] => { results := [.lit (.bool true)], args := [d1, d2] }
  | _ => none }
def schemaAheadRow : OpenClaim := { program := "ytogfnjlhfbpneaa", sum := "1a44508ec8f954680edd7ab5db3771f247a446e5c11a4baf2c646559def52edc", func := "homestead/homesteadlaw11.SchemaAhead", spec := "schemaAhead", unfollowed := true, recurses := true, loops := true, apart := false }
def SchemaAheadSaid : Prop := schemaAheadRow.holds Try.pinned (OpenSpec.ofChange schemaAheadSpec)

/-- ITS FALSE NEIGHBOUR: 'it returns false'. Refute it at one input. -/
def schemaAheadWrong : ChangeSpec := { name := "schemaAhead", fn := fun _ => fun
  | [d1, d2] => { results := [.lit (.bool false)], args := [d1, d2] }
  | _ => none }
def SchemaAheadWrongFalsely : Prop := schemaAheadRow.holds Try.pinned (OpenSpec.ofChange schemaAheadWrong)

/- THE SECOND FORM. 'bulk': how many values and letters a reading holds, each counted each time it is reached (what is shared counts as often as it is met; a slice's spare places count too). A statement '..UptoSaid' is the law's where the arguments, and the package variables that the reading takes, are together of bulk at most 1048576: NARROWER than '..Said'. Prove '..Said' where nothing that the law and all that it calls make is longer than what came in: it says more and counts as full. Else prove '..UptoSaid'. A law counts once. -/
mutual
def uptoBulk {H : Type} : DataW H → Nat
  | .lit (.string bytes) => bytes.length + 1
  | .lit _ => 1
  | .nil => 1
  | .ptr d => uptoBulk d + 1
  | .slice elems spare => uptoBulkAll elems + uptoBulkAll spare + 1
  | .agg parts => uptoBulkAll parts + 1
  | .iface _ d => uptoBulk d + 1
  | .map entries => uptoBulkEntries entries + 1
  | .held _ => 1
def uptoBulkAll {H : Type} : List (DataW H) → Nat
  | [] => 0
  | d :: r => uptoBulk d + uptoBulkAll r
def uptoBulkEntries {H : Type} : List (Lit × DataW H) → Nat
  | [] => 0
  | x :: r => uptoBulkEntry x + uptoBulkEntries r
def uptoBulkEntry {H : Type} : Lit × DataW H → Nat
  | (.string bytes, d) => bytes.length + uptoBulk d + 1
  | (_, d) => uptoBulk d + 1
 end
def uptoSmall : (H : Type) → List (DataW H) → Bool := fun _ ds => decide (uptoBulkAll ds ≤ 1048576)
def OpenSpec.upto (s : _root_.Go.ChangeSpec) : _root_.Go.OpenSpec := { _root_.Go.OpenSpec.ofChange s with cond := some uptoSmall }

/-- 'homesteadlaw11.SchemaNames', WHERE WHAT IT READS IS OF BULK AT MOST 1048576: true; the input reads as it did. -/
def schemaNamesUptoRow : OpenClaim := { program := "ytogfnjlhfbpneaa", sum := "1a44508ec8f954680edd7ab5db3771f247a446e5c11a4baf2c646559def52edc", func := "homestead/homesteadlaw11.SchemaNames", spec := "schemaNames", unfollowed := true, recurses := true, apart := false, narrowed := true }
def SchemaNamesUptoSaid : Prop := schemaNamesUptoRow.holds Try.pinned (OpenSpec.upto schemaNamesSpec)

/-- 'homesteadlaw11.SchemaRight', WHERE WHAT IT READS IS OF BULK AT MOST 1048576: true; the input reads as it did. -/
def schemaRightUptoRow : OpenClaim := { program := "ytogfnjlhfbpneaa", sum := "1a44508ec8f954680edd7ab5db3771f247a446e5c11a4baf2c646559def52edc", func := "homestead/homesteadlaw11.SchemaRight", spec := "schemaRight", unfollowed := true, recurses := true, loops := true, apart := false, narrowed := true }
def SchemaRightUptoSaid : Prop := schemaRightUptoRow.holds Try.pinned (OpenSpec.upto schemaRightSpec)

/-- 'homesteadlaw11.SchemaFinds', WHERE WHAT IT READS IS OF BULK AT MOST 1048576: true; the input reads as it did. -/
def schemaFindsUptoRow : OpenClaim := { program := "ytogfnjlhfbpneaa", sum := "1a44508ec8f954680edd7ab5db3771f247a446e5c11a4baf2c646559def52edc", func := "homestead/homesteadlaw11.SchemaFinds", spec := "schemaFinds", unfollowed := true, recurses := true, loops := true, apart := false, narrowed := true }
def SchemaFindsUptoSaid : Prop := schemaFindsUptoRow.holds Try.pinned (OpenSpec.upto schemaFindsSpec)

/-- 'homesteadlaw11.SchemaEach', WHERE WHAT IT READS IS OF BULK AT MOST 1048576: true; the input reads as it did. -/
def schemaEachUptoRow : OpenClaim := { program := "ytogfnjlhfbpneaa", sum := "1a44508ec8f954680edd7ab5db3771f247a446e5c11a4baf2c646559def52edc", func := "homestead/homesteadlaw11.SchemaEach", spec := "schemaEach", unfollowed := true, recurses := true, loops := true, apart := false, narrowed := true }
def SchemaEachUptoSaid : Prop := schemaEachUptoRow.holds Try.pinned (OpenSpec.upto schemaEachSpec)

/-- 'homesteadlaw11.SchemaKids', WHERE WHAT IT READS IS OF BULK AT MOST 1048576: true; the input reads as it did. -/
def schemaKidsUptoRow : OpenClaim := { program := "ytogfnjlhfbpneaa", sum := "1a44508ec8f954680edd7ab5db3771f247a446e5c11a4baf2c646559def52edc", func := "homestead/homesteadlaw11.SchemaKids", spec := "schemaKids", unfollowed := true, recurses := true, loops := true, apart := false, narrowed := true }
def SchemaKidsUptoSaid : Prop := schemaKidsUptoRow.holds Try.pinned (OpenSpec.upto schemaKidsSpec)

/-- 'homesteadlaw11.SchemaFewer', WHERE WHAT IT READS IS OF BULK AT MOST 1048576: true; the input reads as it did. -/
def schemaFewerUptoRow : OpenClaim := { program := "ytogfnjlhfbpneaa", sum := "1a44508ec8f954680edd7ab5db3771f247a446e5c11a4baf2c646559def52edc", func := "homestead/homesteadlaw11.SchemaFewer", spec := "schemaFewer", unfollowed := true, recurses := true, loops := true, apart := false, narrowed := true }
def SchemaFewerUptoSaid : Prop := schemaFewerUptoRow.holds Try.pinned (OpenSpec.upto schemaFewerSpec)

/-- 'homesteadlaw11.SchemaAhead', WHERE WHAT IT READS IS OF BULK AT MOST 1048576: true; the input reads as it did. -/
def schemaAheadUptoRow : OpenClaim := { program := "ytogfnjlhfbpneaa", sum := "1a44508ec8f954680edd7ab5db3771f247a446e5c11a4baf2c646559def52edc", func := "homestead/homesteadlaw11.SchemaAhead", spec := "schemaAhead", unfollowed := true, recurses := true, loops := true, apart := false, narrowed := true }
def SchemaAheadUptoSaid : Prop := schemaAheadUptoRow.holds Try.pinned (OpenSpec.upto schemaAheadSpec)

end Rows
end Go.Proofs.Ytogfnjlhfbpneaa
