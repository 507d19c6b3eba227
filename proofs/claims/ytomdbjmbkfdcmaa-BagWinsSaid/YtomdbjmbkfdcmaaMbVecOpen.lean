/- Layer 5: vectors, dots, pairs of numbers that came in, and what they were read as. -/
import Derived.Test.YtomdbjmbkfdcmaaMbBase
import Derived.Test.YtomdbjmbkfdcmaaMbVecDot
import Derived.Lib.SmallJoins
namespace Go.Proofs.Ytomdbjmbkfdcmaa
set_option maxRecDepth 100000
open Go.ChangeShapes Go.WideShapes Go.ChangeAt Go.RowKit

abbrev I64 (z : Int) : Prop := -9223372036854775808 ≤ z ∧ z ≤ 9223372036854775807

theorem open_vec {H : Type} {enc : TypeId × Value → H} {W : World} {base : Nat} {v : Value} {d : DataW H} {ps : List MemPlace} (hval : Value.okWide Try.prog W .any base 33 v) (h : DataW.Trod enc Try.prog W 0 (fun _ => true) true 33 v d ps) (hlt : ∀ x ∈ ps, x.block < W.heap.size) :
    ∃ A n c l, v = .slice A n c ∧ Rd W A n c (vals .i64 l) ∧ ∀ x ∈ l, I64 x := by
  obtain ⟨A, n, c, l, h1, h2, h3⟩ := open_sl (k := .i64) Try.underlying33 Try.underlying3 (by kernel_rfl) hval h hlt
  exact ⟨A, n, c, l, h1, h2, fun x hx => wf_i64 (h3 x hx)⟩

theorem open_dot {H : Type} {enc : TypeId × Value → H} {W : World} {base : Nat} {v : Value} {d : DataW H} {ps : List MemPlace} (hval : Value.okWide Try.prog W .any base 28 v) (h : DataW.Trod enc Try.prog W 0 (fun _ => true) true 28 v d ps) :
    ∃ x y : Int, v = .agg #[.int .i64 x, .int .i64 y] ∧ I64 x ∧ I64 y := by
  obtain ⟨x0, y0, dx0, dy0, m0, rfl, _, _, tx0, ty0⟩ := Go.Joins.open_agg2 Try.underlying28 (by kernel_rfl) (by kernel_rfl) hval h
  obtain ⟨k, ek, _, wk⟩ := DataW.trod_int Try.underlying3 tx0
  obtain ⟨n, en, _, wn⟩ := DataW.trod_int Try.underlying3 ty0
  obtain rfl := List.singleton_inj.1 ek
  obtain rfl := List.singleton_inj.1 en
  exact ⟨k, n, rfl, wf_i64 wk, wf_i64 wn⟩

theorem Try.cellsA2 : Try.prog.cellsOf 44 = 2 := by kernel_rfl
theorem Try.cellsI5 : Try.prog.cellsOf 3 = 1 := by kernel_rfl
theorem open_arr2 {H : Type} {enc : TypeId × Value → H} {W : World} {base : Nat} {v : Value} {d : DataW H} {ps : List MemPlace} (hval : Value.okWide Try.prog W .any base 44 v) (h : DataW.Trod enc Try.prog W 0 (fun _ => true) true 44 v d ps) :
    ∃ x y : Int, v = .agg #[.int .i64 x, .int .i64 y] ∧ I64 x ∧ I64 y := by
  obtain ⟨cs, rfl, hsz⟩ : ∃ cs, v = .agg cs ∧ cs.size = Try.prog.cellsOf 44 := by
    simp only [Value.okWide, Try.underlying44] at hval
    obtain ⟨cs, h1, h2, _⟩ := hval
    exact ⟨cs, h1, h2⟩
  rw [Try.cellsA2] at hsz
  obtain ⟨c0, c1, rfl⟩ := Go.Joins.array2 hsz
  obtain ⟨fuel, hf⟩ := h
  obtain ⟨xs, m, _, _, _, hlen, hx⟩ := DataW.trod_array Try.underlying44 hf
  match xs, hlen with
  | [y0, y1], _ =>
    have h0 := hx 0 (by omega)
    have h1 := hx 1 (by omega)
    rw [Try.cellsI5] at h0 h1
    have h0 : DataW.trod enc Try.prog W 0 (fun _ => true) true m 3 [c0] = some y0 := h0
    have h1 : DataW.trod enc Try.prog W 0 (fun _ => true) true m 3 [c1] = some y1 := h1
    obtain ⟨k, ek, _, wk⟩ := DataW.trod_int Try.underlying3 h0
    obtain ⟨n, en, _, wn⟩ := DataW.trod_int Try.underlying3 h1
    obtain rfl := List.singleton_inj.1 ek
    obtain rfl := List.singleton_inj.1 en
    exact ⟨k, n, rfl, wf_i64 wk, wf_i64 wn⟩
end Go.Proofs.Ytomdbjmbkfdcmaa

