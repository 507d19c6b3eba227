/- Layer 9: how two dots, two vectors lie in a law's arguments. -/
import Derived.Test.YtomdbjmbkfdcmaaMbOpen
import Derived.Test.YtomdbjmbkfdcmaaMbBagAl
namespace Go.Proofs.Ytomdbjmbkfdcmaa
set_option maxRecDepth 100000
open Go.RowKit

theorem below_set5h {w0 w : World} {B g : Nat} {o : Obj} {x y z a b : Value} (_ : w.heap[g]? = some o) (h : Below B w0 w) (hg : B ≤ g) : Below B w0 (((((w.setCell ⟨g, 0, none⟩ x).setCell ⟨g, 1, none⟩ y).setCell ⟨g, 2, none⟩ z).setCell ⟨g, 3, none⟩ a).setCell ⟨g, 4, none⟩ b) := below_set5 h hg
theorem open_dot2 {H : Type} {enc : TypeId × Value → H} {W : World} {base : Nat} {v : Value} {d : DataW H} {ps : List MemPlace} (hval : Value.okWide Try.prog W .any base 50 v) (h : DataW.Trod enc Try.prog W 0 (fun _ => true) true 50 v d ps) :
    ∃ x y : D2, v = .agg #[.int .i64 x.d, .int .i64 x.s, .int .i64 y.d, .int .i64 y.s] := by
  obtain ⟨cs, rfl, hsz⟩ := okWide_arr Try.underlying50 hval
  obtain ⟨l⟩ := cs
  replace hsz : l.length = 4 := hsz.trans (by kernel_rfl)
  obtain ⟨fuel, hf⟩ := h
  obtain ⟨xs, m, _, _, _, hlen, hx⟩ := DataW.trod_array Try.underlying50 hf
  match xs, hlen, l, hsz with
  | [y0, y1], _, [c0, c1, c2, c3], _ =>
    have h0 := hx 0 (by omega)
    have h1 := hx 1 (by omega)
    rw [Try.cellsDot] at h0 h1
    have h0 : DataW.trod enc Try.prog W 0 (fun _ => true) true m 28 [c0, c1] = some y0 := h0
    have h1 : DataW.trod enc Try.prog W 0 (fun _ => true) true m 28 [c2, c3] = some y1 := h1
    obtain ⟨x, e0, _⟩ := dot_cells _ _ _ h0
    obtain ⟨y, e1, _⟩ := dot_cells _ _ _ h1
    simp only [List.cons.injEq, and_true] at e0 e1
    obtain ⟨rfl, rfl⟩ := e0
    obtain ⟨rfl, rfl⟩ := e1
    exact ⟨x, y, rfl⟩
end Go.Proofs.Ytomdbjmbkfdcmaa

