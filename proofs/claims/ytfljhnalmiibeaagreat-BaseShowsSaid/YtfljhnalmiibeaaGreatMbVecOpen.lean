/- Layer 5: vectors, dots, pairs of numbers that came in, and what they were read as. -/
import Derived.Test.YtfljhnalmiibeaaGreatMbMem
import Derived.Test.YtfljhnalmiibeaaGreatMbVecDot
import Derived.Lib.SmallJoins
namespace Go.Proofs.YtfljhnalmiibeaaGreat
set_option maxRecDepth 100000
open Go.ChangeShapes Go.WideShapes Go.ChangeAt Go.RowKit
abbrev I64 (z : Int) : Prop := -9223372036854775808 ≤ z ∧ z ≤ 9223372036854775807
theorem Tryz.cellsA2 : Tryz.prog.cellsOf 33 = 2 := by kernel_rfl
theorem Tryz.cellsI5 : Tryz.prog.cellsOf 3 = 1 := by kernel_rfl
theorem open_arr2 {H : Type} {enc : TypeId × Value → H} {W : World} {base : Nat} {v : Value} {d : DataW H} {ps : List MemPlace} (hval : Value.okWide Tryz.prog W .any base 33 v) (h : DataW.Trod enc Tryz.prog W 0 (fun _ => true) true 33 v d ps) :
    ∃ x y : Int, v = .agg #[.int .i64 x, .int .i64 y] ∧ I64 x ∧ I64 y := by
  obtain ⟨cs, rfl, hsz⟩ : ∃ cs, v = .agg cs ∧ cs.size = Tryz.prog.cellsOf 33 := by
    simp only [Value.okWide, Tryz.underlying33] at hval
    obtain ⟨cs, h1, h2, _⟩ := hval
    exact ⟨cs, h1, h2⟩
  rw [Tryz.cellsA2] at hsz
  obtain ⟨c0, c1, rfl⟩ := Go.Joins.array2 hsz
  obtain ⟨fuel, hf⟩ := h
  obtain ⟨xs, m, _, _, _, hlen, hx⟩ := DataW.trod_array Tryz.underlying33 hf
  match xs, hlen with
  | [y0, y1], _ =>
    have h0 := hx 0 (by omega)
    have h1 := hx 1 (by omega)
    rw [Tryz.cellsI5] at h0 h1
    have h0 : DataW.trod enc Tryz.prog W 0 (fun _ => true) true m 3 [c0] = some y0 := h0
    have h1 : DataW.trod enc Tryz.prog W 0 (fun _ => true) true m 3 [c1] = some y1 := h1
    obtain ⟨k, ek, _, wk⟩ := DataW.trod_int Tryz.underlying3 h0
    obtain ⟨n, en, _, wn⟩ := DataW.trod_int Tryz.underlying3 h1
    obtain rfl := List.singleton_inj.1 ek
    obtain rfl := List.singleton_inj.1 en
    exact ⟨k, n, rfl, wf_i64 wk, wf_i64 wn⟩
end Go.Proofs.YtfljhnalmiibeaaGreat

