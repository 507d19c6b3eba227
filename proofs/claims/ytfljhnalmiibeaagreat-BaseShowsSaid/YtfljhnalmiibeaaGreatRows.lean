/-
  NARROWER THAN 'FOR EVERY INPUT', by the rows' own cells (each row's printed sentence says how): BaseRight: loops · BasePut: loops · BaseDrop: loops · BaseOrder: loops · BaseShows: loops.
  DERIVED. THE GIVEN ROWS OF THIS SEAT. 7 by the template 'for every input the law returns true; each argument reads behind the call as it read before'; 0 by the template 'total and deterministic' (their statements: YtfljhnalmiibeaaGreatTotals.lean).
  GIVEN WITH THE SEED: the statements are not yours to turn. If you find one false, say at which input.
  Laid BY PROGRAM, IN A SANDBOX (cutbox-rows.mjs): the forced cells as the released guide's own fill.sh prints them over the translation 2987d6b979fd5cf8… (all of the seat's roots in one cut). By AI agents, Wed Nov 11 2026. No macro, syntax, notation, axiom, sorry.
-/
import Derived.Test.YtfljhnalmiibeaaGreatChecked
import GoSem.Claim
import GoSem.ClaimJoined
import GoSem.ClaimMapViews
import Derived.JoinedTies
import Derived.KernelRfl
namespace Go.Proofs.YtfljhnalmiibeaaGreat
/- THE CELL 'sum', in the pinned program and in every row, IS THE sha256 OF THE DUMP (.gsa) THAT YtfljhnalmiibeaaGreatProg.lean LOADS. Nothing in Lean hashes anything: it is a label: what it is worth is what the hold of that sum in a sandbox is worth. -/
noncomputable def Tryz.pinned : Pinned := { name := "ytfljhnalmiibeaagreat", sum := "2987d6b979fd5cf8b4427031bd78ead296c7fbcc4f2e8aba2a4065844a1bdf65", checked := Tryz.checked }
namespace Rows
def none {H : Type} : Left H := { results := [], args := [] }

/-- 'homesteadlaw13.BaseRight': WHATEVER THE INPUT: true; the input reads as it did. -/
def baseRightSpec : ChangeSpec := { name := "baseRight", fn := fun _ => fun
  | [d1, d2] => { results := [.lit (.bool true)], args := [d1, d2] }
  | _ => none }
def baseRightRow : OpenClaim := { program := "ytfljhnalmiibeaagreat", sum := "2987d6b979fd5cf8b4427031bd78ead296c7fbcc4f2e8aba2a4065844a1bdf65", func := "homestead/homesteadlaw13.BaseRight", spec := "baseRight", inPlace := ["slices.overlaps[homestead/api.Dot]"], unfollowed := true, recurses := true, loops := true, plainKeys := false, apart := false }
def BaseRightSaid : Prop := baseRightRow.holds Tryz.pinned (OpenSpec.ofChange baseRightSpec)

/-- ITS FALSE NEIGHBOUR: 'it returns false'. Refute it at one input. -/
def baseRightWrong : ChangeSpec := { name := "baseRight", fn := fun _ => fun
  | [d1, d2] => { results := [.lit (.bool false)], args := [d1, d2] }
  | _ => none }
def BaseRightWrongFalsely : Prop := baseRightRow.holds Tryz.pinned (OpenSpec.ofChange baseRightWrong)

/-- 'homesteadlaw13.BaseTurns': WHATEVER THE INPUT: true; the input reads as it did. -/
def baseTurnsSpec : ChangeSpec := { name := "baseTurns", fn := fun _ => fun
  | [d1, d2, d3] => { results := [.lit (.bool true)], args := [d1, d2, d3] }
  | _ => none }
def baseTurnsRow : OpenClaim := { program := "ytfljhnalmiibeaagreat", sum := "2987d6b979fd5cf8b4427031bd78ead296c7fbcc4f2e8aba2a4065844a1bdf65", func := "homestead/homesteadlaw13.BaseTurns", spec := "baseTurns", inPlace := ["slices.overlaps[homestead/api.Dot]"], unfollowed := true, recurses := true, plainKeys := false, apart := false }
def BaseTurnsSaid : Prop := baseTurnsRow.holds Tryz.pinned (OpenSpec.ofChange baseTurnsSpec)

/-- ITS FALSE NEIGHBOUR: 'it returns false'. Refute it at one input. -/
def baseTurnsWrong : ChangeSpec := { name := "baseTurns", fn := fun _ => fun
  | [d1, d2, d3] => { results := [.lit (.bool false)], args := [d1, d2, d3] }
  | _ => none }
def BaseTurnsWrongFalsely : Prop := baseTurnsRow.holds Tryz.pinned (OpenSpec.ofChange baseTurnsWrong)

/-- 'homesteadlaw13.BasePut': WHATEVER THE INPUT: true; the input reads as it did. -/
def basePutSpec : ChangeSpec := { name := "basePut", fn := fun _ => fun
  | [d1, d2, d3, d4] => { results := [.lit (.bool true)], args := [d1, d2, d3, d4] }
  | _ => none }
def basePutRow : OpenClaim := { program := "ytfljhnalmiibeaagreat", sum := "2987d6b979fd5cf8b4427031bd78ead296c7fbcc4f2e8aba2a4065844a1bdf65", func := "homestead/homesteadlaw13.BasePut", spec := "basePut", inPlace := ["slices.overlaps[homestead/api.Dot]"], unfollowed := true, recurses := true, loops := true, plainKeys := false, apart := false }
def BasePutSaid : Prop := basePutRow.holds Tryz.pinned (OpenSpec.ofChange basePutSpec)

/-- ITS FALSE NEIGHBOUR: 'it returns false'. Refute it at one input. -/
def basePutWrong : ChangeSpec := { name := "basePut", fn := fun _ => fun
  | [d1, d2, d3, d4] => { results := [.lit (.bool false)], args := [d1, d2, d3, d4] }
  | _ => none }
def BasePutWrongFalsely : Prop := basePutRow.holds Tryz.pinned (OpenSpec.ofChange basePutWrong)

/-- 'homesteadlaw13.BaseDrop': WHATEVER THE INPUT: true; the input reads as it did. -/
def baseDropSpec : ChangeSpec := { name := "baseDrop", fn := fun _ => fun
  | [d1, d2, d3] => { results := [.lit (.bool true)], args := [d1, d2, d3] }
  | _ => none }
def baseDropRow : OpenClaim := { program := "ytfljhnalmiibeaagreat", sum := "2987d6b979fd5cf8b4427031bd78ead296c7fbcc4f2e8aba2a4065844a1bdf65", func := "homestead/homesteadlaw13.BaseDrop", spec := "baseDrop", inPlace := ["slices.overlaps[homestead/api.Dot]"], unfollowed := true, recurses := true, loops := true, plainKeys := false, apart := false }
def BaseDropSaid : Prop := baseDropRow.holds Tryz.pinned (OpenSpec.ofChange baseDropSpec)

/-- ITS FALSE NEIGHBOUR: 'it returns false'. Refute it at one input. -/
def baseDropWrong : ChangeSpec := { name := "baseDrop", fn := fun _ => fun
  | [d1, d2, d3] => { results := [.lit (.bool false)], args := [d1, d2, d3] }
  | _ => none }
def BaseDropWrongFalsely : Prop := baseDropRow.holds Tryz.pinned (OpenSpec.ofChange baseDropWrong)

/-- 'homesteadlaw13.BaseOrder': WHATEVER THE INPUT: true; the input reads as it did. -/
def baseOrderSpec : ChangeSpec := { name := "baseOrder", fn := fun _ => fun
  | [d1, d2, d3, d4] => { results := [.lit (.bool true)], args := [d1, d2, d3, d4] }
  | _ => none }
def baseOrderRow : OpenClaim := { program := "ytfljhnalmiibeaagreat", sum := "2987d6b979fd5cf8b4427031bd78ead296c7fbcc4f2e8aba2a4065844a1bdf65", func := "homestead/homesteadlaw13.BaseOrder", spec := "baseOrder", inPlace := ["slices.overlaps[homestead/api.Dot]"], unfollowed := true, recurses := true, loops := true, plainKeys := false, apart := false }
def BaseOrderSaid : Prop := baseOrderRow.holds Tryz.pinned (OpenSpec.ofChange baseOrderSpec)

/-- ITS FALSE NEIGHBOUR: 'it returns false'. Refute it at one input. -/
def baseOrderWrong : ChangeSpec := { name := "baseOrder", fn := fun _ => fun
  | [d1, d2, d3, d4] => { results := [.lit (.bool false)], args := [d1, d2, d3, d4] }
  | _ => none }
def BaseOrderWrongFalsely : Prop := baseOrderRow.holds Tryz.pinned (OpenSpec.ofChange baseOrderWrong)

/-- 'homesteadlaw13.BaseShows': WHATEVER THE INPUT: true; the input reads as it did. -/
def baseShowsSpec : ChangeSpec := { name := "baseShows", fn := fun _ => fun
  | [d1, d2, d3] => { results := [.lit (.bool true)], args := [d1, d2, d3] }
  | _ => none }
def baseShowsRow : OpenClaim := { program := "ytfljhnalmiibeaagreat", sum := "2987d6b979fd5cf8b4427031bd78ead296c7fbcc4f2e8aba2a4065844a1bdf65", func := "homestead/homesteadlaw13.BaseShows", spec := "baseShows", inPlace := ["slices.overlaps[homestead/api.Dot]"], unfollowed := true, recurses := true, loops := true, plainKeys := false, apart := false }
def BaseShowsSaid : Prop := baseShowsRow.holds Tryz.pinned (OpenSpec.ofChange baseShowsSpec)

/-- ITS FALSE NEIGHBOUR: 'it returns false'. Refute it at one input. -/
def baseShowsWrong : ChangeSpec := { name := "baseShows", fn := fun _ => fun
  | [d1, d2, d3] => { results := [.lit (.bool false)], args := [d1, d2, d3] }
  | _ => none }
def BaseShowsWrongFalsely : Prop := baseShowsRow.holds Tryz.pinned (OpenSpec.ofChange baseShowsWrong)

/-- 'homesteadlaw13.BaseWrote': WHATEVER THE INPUT: true; the input reads as it did. -/
def baseWroteSpec : ChangeSpec := { name := "baseWrote", fn := fun _ => fun
  | [d1, d2] => { results := [.lit (.bool true)], args := [d1, d2] }
  | _ => none }
def baseWroteRow : OpenClaim := { program := "ytfljhnalmiibeaagreat", sum := "2987d6b979fd5cf8b4427031bd78ead296c7fbcc4f2e8aba2a4065844a1bdf65", func := "homestead/homesteadlaw13.BaseWrote", spec := "baseWrote", inPlace := ["slices.overlaps[homestead/api.Dot]"], unfollowed := true, recurses := true, plainKeys := false, apart := false }
def BaseWroteSaid : Prop := baseWroteRow.holds Tryz.pinned (OpenSpec.ofChange baseWroteSpec)

/-- ITS FALSE NEIGHBOUR: 'it returns false'. Refute it at one input. -/
def baseWroteWrong : ChangeSpec := { name := "baseWrote", fn := fun _ => fun
  | [d1, d2] => { results := [.lit (.bool false)], args := [d1, d2] }
  | _ => none }
def BaseWroteWrongFalsely : Prop := baseWroteRow.holds Tryz.pinned (OpenSpec.ofChange baseWroteWrong)

/- THE SECOND FORM. 'bulk': how many values and letters a reading holds, each counted each time it is reached (what is shared counts as often as it is met; a slice's spare places count too). A statement '..UptoSaid' is the law's where the arguments, and the package variables that the reading takes, are together of bulk at most 1048576: NARROWER than '..Said'. Prove '..Said' where nothing that the law and all that it calls make is longer than what came in: it says more and counts as full. Else prove '..UptoSaid'. A law counts once. -/
mutual
def uptoBulk {H : Type} : DataW H → Nat
  | .lit (.string bytes) => bytes.length + 1
  | .lit _ => 1
  | .nil => 1
  | .ptr d => uptoBulk d + 1
  | .slice elems spare => uptoBulkAll elems + uptoBulkAll spare + 1
  | .agg parts => uptoBulkAll parts + 1
  | .iface _ d => uptoBulk d + 1
  | .map entries => uptoBulkEntries entries + 1
  | .held _ => 1
def uptoBulkAll {H : Type} : List (DataW H) → Nat
  | [] => 0
  | d :: r => uptoBulk d + uptoBulkAll r
def uptoBulkEntries {H : Type} : List (Lit × DataW H) → Nat
  | [] => 0
  | x :: r => uptoBulkEntry x + uptoBulkEntries r
def uptoBulkEntry {H : Type} : Lit × DataW H → Nat
  | (.string bytes, d) => bytes.length + uptoBulk d + 1
  | (_, d) => uptoBulk d + 1
 end
def uptoSmall : (H : Type) → List (DataW H) → Bool := fun _ ds => decide (uptoBulkAll ds ≤ 1048576)
def OpenSpec.upto (s : _root_.Go.ChangeSpec) : _root_.Go.OpenSpec := { _root_.Go.OpenSpec.ofChange s with cond := some uptoSmall }

/-- 'homesteadlaw13.BaseRight', WHERE WHAT IT READS IS OF BULK AT MOST 1048576: true; the input reads as it did. -/
def baseRightUptoRow : OpenClaim := { program := "ytfljhnalmiibeaagreat", sum := "2987d6b979fd5cf8b4427031bd78ead296c7fbcc4f2e8aba2a4065844a1bdf65", func := "homestead/homesteadlaw13.BaseRight", spec := "baseRight", inPlace := ["slices.overlaps[homestead/api.Dot]"], unfollowed := true, recurses := true, loops := true, plainKeys := false, apart := false, narrowed := true }
def BaseRightUptoSaid : Prop := baseRightUptoRow.holds Tryz.pinned (OpenSpec.upto baseRightSpec)

/-- 'homesteadlaw13.BaseTurns', WHERE WHAT IT READS IS OF BULK AT MOST 1048576: true; the input reads as it did. -/
def baseTurnsUptoRow : OpenClaim := { program := "ytfljhnalmiibeaagreat", sum := "2987d6b979fd5cf8b4427031bd78ead296c7fbcc4f2e8aba2a4065844a1bdf65", func := "homestead/homesteadlaw13.BaseTurns", spec := "baseTurns", inPlace := ["slices.overlaps[homestead/api.Dot]"], unfollowed := true, recurses := true, plainKeys := false, apart := false, narrowed := true }
def BaseTurnsUptoSaid : Prop := baseTurnsUptoRow.holds Tryz.pinned (OpenSpec.upto baseTurnsSpec)

/-- 'homesteadlaw13.BasePut', WHERE WHAT IT READS IS OF BULK AT MOST 1048576: true; the input reads as it did. -/
def basePutUptoRow : OpenClaim := { program := "ytfljhnalmiibeaagreat", sum := "2987d6b979fd5cf8b4427031bd78ead296c7fbcc4f2e8aba2a4065844a1bdf65", func := "homestead/homesteadlaw13.BasePut", spec := "basePut", inPlace := ["slices.overlaps[homestead/api.Dot]"], unfollowed := true, recurses := true, loops := true, plainKeys := false, apart := false, narrowed := true }
def BasePutUptoSaid : Prop := basePutUptoRow.holds Tryz.pinned (OpenSpec.upto basePutSpec)

/-- 'homesteadlaw13.BaseDrop', WHERE WHAT IT READS IS OF BULK AT MOST 1048576: true; the input reads as it did. -/
def baseDropUptoRow : OpenClaim := { program := "ytfljhnalmiibeaagreat", sum := "2987d6b979fd5cf8b4427031bd78ead296c7fbcc4f2e8aba2a4065844a1bdf65", func := "homestead/homesteadlaw13.BaseDrop", spec := "baseDrop", inPlace := ["slices.overlaps[homestead/api.Dot]"], unfollowed := true, recurses := true, loops := true, plainKeys := false, apart := false, narrowed := true }
def BaseDropUptoSaid : Prop := baseDropUptoRow.holds Tryz.pinned (OpenSpec.upto baseDropSpec)

/-- 'homesteadlaw13.BaseOrder', WHERE WHAT IT READS IS OF BULK AT MOST 1048576: true; the input reads as it did. -/
def baseOrderUptoRow : OpenClaim := { program := "ytfljhnalmiibeaagreat", sum := "2987d6b979fd5cf8b4427031bd78ead296c7fbcc4f2e8aba2a4065844a1bdf65", func := "homestead/homesteadlaw13.BaseOrder", spec := "baseOrder", inPlace := ["slices.overlaps[homestead/api.Dot]"], unfollowed := true, recurses := true, loops := true, plainKeys := false, apart := false, narrowed := true }
def BaseOrderUptoSaid : Prop := baseOrderUptoRow.holds Tryz.pinned (OpenSpec.upto baseOrderSpec)

/-- 'homesteadlaw13.BaseShows', WHERE WHAT IT READS IS OF BULK AT MOST 1048576: true; the input reads as it did. -/
def baseShowsUptoRow : OpenClaim := { program := "ytfljhnalmiibeaagreat", sum := "2987d6b979fd5cf8b4427031bd78ead296c7fbcc4f2e8aba2a4065844a1bdf65", func := "homestead/homesteadlaw13.BaseShows", spec := "baseShows", inPlace := ["slices.overlaps[homestead/api.Dot]"], unfollowed := true, recurses := true, loops := true, plainKeys := false, apart := false, narrowed := true }
def BaseShowsUptoSaid : Prop := baseShowsUptoRow.holds Tryz.pinned (OpenSpec.upto baseShowsSpec)

/-- 'homesteadlaw13.BaseWrote', WHERE WHAT IT READS IS OF BULK AT MOST 1048576: true; the input reads as it did. -/
def baseWroteUptoRow : OpenClaim := { program := "ytfljhnalmiibeaagreat", sum := "2987d6b979fd5cf8b4427031bd78ead296c7fbcc4f2e8aba2a4065844a1bdf65", func := "homestead/homesteadlaw13.BaseWrote", spec := "baseWrote", inPlace := ["slices.overlaps[homestead/api.Dot]"], unfollowed := true, recurses := true, plainKeys := false, apart := false, narrowed := true }
def BaseWroteUptoSaid : Prop := baseWroteUptoRow.holds Tryz.pinned (OpenSpec.upto baseWroteSpec)

end Rows
end Go.Proofs.YtfljhnalmiibeaaGreat
