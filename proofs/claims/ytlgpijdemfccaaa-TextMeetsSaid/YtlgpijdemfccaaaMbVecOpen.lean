/- Layer 5: vectors, dots, pairs of numbers that came in, and what they were read as. -/
import Derived.Test.YtlgpijdemfccaaaMbBase
import Derived.Test.YtlgpijdemfccaaaMbVecDot
import Derived.Lib.SmallJoins
namespace Go.Proofs.Ytlgpijdemfccaaa
set_option maxRecDepth 100000
open Go.ChangeShapes Go.WideShapes Go.ChangeAt Go.RowKit

abbrev I64 (z : Int) : Prop := -9223372036854775808 ≤ z ∧ z ≤ 9223372036854775807

theorem open_dot {H : Type} {enc : TypeId × Value → H} {W : World} {base : Nat} {v : Value} {d : DataW H} {ps : List MemPlace} (hval : Value.okWide Try.prog W .any base 40 v) (h : DataW.Trod enc Try.prog W 0 (fun _ => true) true 40 v d ps) :
    ∃ x y : Int, v = .agg #[.int .i64 x, .int .i64 y] ∧ I64 x ∧ I64 y := by
  obtain ⟨x0, y0, dx0, dy0, m0, rfl, _, _, tx0, ty0⟩ := Go.Joins.open_agg2 Try.underlying40 (by kernel_rfl) (by kernel_rfl) hval h
  obtain ⟨k, ek, _, wk⟩ := DataW.trod_int Try.underlying3 tx0
  obtain ⟨n, en, _, wn⟩ := DataW.trod_int Try.underlying3 ty0
  obtain rfl := List.singleton_inj.1 ek
  obtain rfl := List.singleton_inj.1 en
  exact ⟨k, n, rfl, wf_i64 wk, wf_i64 wn⟩

theorem Try.cellsI5 : Try.prog.cellsOf 3 = 1 := by kernel_rfl
end Go.Proofs.Ytlgpijdemfccaaa

