/- Layer 5: what a vector has of a device, its end, the longer one: the code and the document's answer. -/
import Derived.Test.YtlgpijdemfccaaaMbVecMath
import Derived.Test.YtlgpijdemfccaaaRows
import Derived.Deep.QuietTactic
import Derived.BigQuiet
import Derived.IntWalk
namespace Go.Proofs.Ytlgpijdemfccaaa
set_option maxRecDepth 100000
open Go.RowKit

theorem rd_dev {w : World} {A : Option Addr} {n c : Nat} {l : List Int} (h : Rd w A n c (vals .i64 l)) {d : Int} (h1 : 1 ≤ d) (h2 : d ≤ n) :
    ∃ b o, A = some ⟨b, o, none⟩ ∧ w.cell? ⟨b, o + (d.toNat - 1), none⟩ = some (.int .i64 (ofV l d)) := by
  obtain ⟨b, o, v, rfl, hb, hv, hc⟩ := h.at_ (k := d.toNat - 1) (by omega)
  obtain ⟨z, hz, rfl⟩ := vals_at hv
  refine ⟨b, o, rfl, ?_⟩
  rw [hc, ofV_in h1, ofN_at hz]

end Go.Proofs.Ytlgpijdemfccaaa

