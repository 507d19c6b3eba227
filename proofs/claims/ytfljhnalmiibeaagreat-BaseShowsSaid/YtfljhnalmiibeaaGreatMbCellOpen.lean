/- Cells, parts, dots that came in, and what they were read as. -/
import Derived.Test.YtfljhnalmiibeaaGreatMbStruct
import Derived.Test.YtfljhnalmiibeaaGreatMbVecOpen
import Derived.Test.YtfljhnalmiibeaaGreatMbValMath
import Derived.Test.YtfljhnalmiibeaaGreatMbBasMath
namespace Go.Proofs.YtfljhnalmiibeaaGreat
set_option maxRecDepth 100000
open Go.ChangeShapes Go.WideShapes Go.ChangeAt Go.RowKit
/-- a slice whose elements take several cells each, within something that came in -/
theorem open_sg_in {α : Type} {enc : α → List Value} {sz : Nat} {ok : α → Prop} [Inhabited α] {H : Type} {e' : TypeId × Value → H} {P : Program} {W : World} {t e : TypeId} (ht : P.underlying t = some (.slice e)) (hc : P.cellsOf e = sz)
    (hel : ∀ (n : Nat) (cs : List Value) r, DataW.trod e' P W 0 (fun _ => true) true n e cs = some r → ∃ x, cs = enc x ∧ ok x)
    {fuel : Nat} {cs : List Value} {r} (hf : DataW.trod e' P W 0 (fun _ => true) true fuel t cs = some r) (h1 : 1 ≤ sz) :
    ∃ A n c l, cs = [.slice A n c] ∧ RdG enc sz W A n c l ∧ ∀ x ∈ l, ok x := by
  rcases Go.Deep.open_slice ht hf with ⟨rfl, _⟩ | ⟨a, len, cap, m, n, D, Pl, rfl, _, hl, hm, hmm, _, hx⟩
  · exact ⟨none, 0, 0, [], rfl, RdG.nil_ _, by simp⟩
  · simp only [if_true] at hmm
    subst hmm
    rw [hc] at hx
    obtain ⟨X, hX⟩ := Go.Deep.choose_lt (n := len) (p := fun i x => W.cells? 0 (a.add (i * sz)) sz = some (enc x) ∧ ok x) (fun i hi => by
      obtain ⟨cs', h2, h3⟩ := hx i (by omega)
      obtain ⟨x, rfl, ho⟩ := hel _ _ _ h3
      exact ⟨x, h2, ho⟩)
    refine ⟨some a, _, _, (List.range len).map X, rfl, ⟨by simp, hl, hm, fun h0 => ?_⟩, ?_⟩
    · obtain ⟨b, off, spot⟩ := a
      have hcell : ∀ i, i < len → ∀ q v, (enc (X i))[q]? = some v → W.cell? ((⟨b, off, spot⟩ : Addr).add (i * sz + q)) = some v := by
        intro i hi q v hv
        obtain ⟨_, hlen, hcs⟩ := World.cells?_some (hX i hi).1
        have hq : q < sz := by rw [← hlen]; exact (List.getElem?_eq_some_iff.1 hv).1
        have := hcs q hq
        rw [Go.Deep.add_add] at this
        rw [this, hv]
      obtain ⟨_, hlen0, _⟩ := World.cells?_some (hX 0 h0).1
      have h00 := hcell 0 h0 0 _ (List.getElem?_eq_getElem (by rw [hlen0]; omega))
      have hspot : spot = none := by
        have := World.cell?_spot h00
        simpa [Addr.add] using this
      subst hspot
      have hb : b < W.heap.size := by
        have := block_lt_of_cell h00
        simpa [Addr.add] using this
      refine ⟨b, off, rfl, hb, fun j hj i v hv => ?_⟩
      simp only [List.length_map, List.length_range] at hj
      rw [List.getElem_map, List.getElem_range] at hv
      have h2 := hcell j hj i v hv
      have h3 : (⟨b, off, none⟩ : Addr).add (j * sz + i) = ⟨b, off + j * sz + i, none⟩ := by unfold Addr.add; by_cases hz : j * sz + i = 0 <;> simp [hz, Nat.add_assoc] <;> omega
      rw [h3] at h2
      exact h2
    · intro x hx'
      rw [List.mem_map] at hx'
      obtain ⟨i, hi, rfl⟩ := hx'
      exact (hX i (List.mem_range.1 hi)).2
theorem Tryz.cellsDot : Tryz.prog.cellsOf 40 = 2 := by kernel_rfl
theorem Tryz.cellsPart : Tryz.prog.cellsOf 105 = 11 := by kernel_rfl
theorem Tryz.cellsParts : Tryz.prog.cellsOf 70 = 1 := by kernel_rfl
theorem Tryz.cellsCell : Tryz.prog.cellsOf 72 = 5 := by kernel_rfl
def D2.wf (d : D2) : Prop := I64 d.d ∧ I64 d.s
def P11.wf (x : P11) : Prop := x.v.wf ∧ x.d.wf ∧ I64 x.i ∧ I64 x.t ∧ x.a.wf ∧ I64 x.j
instance : Inhabited D2 := ⟨⟨0, 0⟩⟩
instance : Inhabited P11 := ⟨⟨default, default, 0, 0, default, 0, false⟩⟩
theorem dot_cells {H : Type} {enc : TypeId × Value → H} {W : World} (n : Nat) (cs : List Value) (r) (h : DataW.trod enc Tryz.prog W 0 (fun _ => true) true n 40 cs = some r) : ∃ x : D2, cs = [.int .i64 x.d, .int .i64 x.s] ∧ x.wf := by
  obtain ⟨xs, m, _, _, hl, hlen, hf⟩ := DataW.trod_struct Tryz.underlying40 h
  rw [Tryz.cellsDot] at hl
  match xs, hlen with
  | [y0, y1], _ =>
    match cs, hl with
    | [a, b], _ =>
      have h0 : DataW.trod enc Tryz.prog W 0 (fun _ => true) true m 3 (List.take (Tryz.prog.cellsOf 3) (List.drop 0 [a, b])) = some y0 := hf 0 _ rfl
      have h1 : DataW.trod enc Tryz.prog W 0 (fun _ => true) true m 3 (List.take (Tryz.prog.cellsOf 3) (List.drop 1 [a, b])) = some y1 := hf 1 _ rfl
      simp only [Tryz.cellsI] at h0 h1
      obtain ⟨k, e0, _, w0⟩ := DataW.trod_int Tryz.underlying3 h0
      obtain ⟨n', e1, _, w1⟩ := DataW.trod_int Tryz.underlying3 h1
      simp at e0 e1
      subst e0 e1
      exact ⟨⟨k, n'⟩, rfl, wf_i64 w0, wf_i64 w1⟩
theorem part_cells {H : Type} {enc : TypeId × Value → H} {W : World} (n : Nat) (cs : List Value) (r) (h : DataW.trod enc Tryz.prog W 0 (fun _ => true) true n 105 cs = some r) : ∃ x : P11, cs = x.cells ∧ x.wf := by
  obtain ⟨xs, m, _, _, hl, hlen, hf⟩ := DataW.trod_struct Tryz.underlying105 h
  rw [Tryz.cellsPart] at hl
  match xs, hlen with
  | [y0, y1, y2, y3, y4, y5, y6], _ =>
    match cs, hl with
    | [c0, c1, c2, c3, c4, c5, c6, c7, c8, c9, c10], _ =>
      have h0 : DataW.trod enc Tryz.prog W 0 (fun _ => true) true m 68 (List.take (Tryz.prog.cellsOf 68) (List.drop 0 [c0, c1, c2, c3, c4, c5, c6, c7, c8, c9, c10])) = some y0 := hf 0 _ rfl
      have h1 : DataW.trod enc Tryz.prog W 0 (fun _ => true) true m 40 (List.take (Tryz.prog.cellsOf 40) (List.drop 3 [c0, c1, c2, c3, c4, c5, c6, c7, c8, c9, c10])) = some y1 := hf 1 _ rfl
      have h2 : DataW.trod enc Tryz.prog W 0 (fun _ => true) true m 3 (List.take (Tryz.prog.cellsOf 3) (List.drop 5 [c0, c1, c2, c3, c4, c5, c6, c7, c8, c9, c10])) = some y2 := hf 2 _ rfl
      have h3 : DataW.trod enc Tryz.prog W 0 (fun _ => true) true m 3 (List.take (Tryz.prog.cellsOf 3) (List.drop 6 [c0, c1, c2, c3, c4, c5, c6, c7, c8, c9, c10])) = some y3 := hf 3 _ rfl
      have h4 : DataW.trod enc Tryz.prog W 0 (fun _ => true) true m 40 (List.take (Tryz.prog.cellsOf 40) (List.drop 7 [c0, c1, c2, c3, c4, c5, c6, c7, c8, c9, c10])) = some y4 := hf 4 _ rfl
      have h5 : DataW.trod enc Tryz.prog W 0 (fun _ => true) true m 3 (List.take (Tryz.prog.cellsOf 3) (List.drop 9 [c0, c1, c2, c3, c4, c5, c6, c7, c8, c9, c10])) = some y5 := hf 5 _ rfl
      have h6 : DataW.trod enc Tryz.prog W 0 (fun _ => true) true m 4 (List.take (Tryz.prog.cellsOf 4) (List.drop 10 [c0, c1, c2, c3, c4, c5, c6, c7, c8, c9, c10])) = some y6 := hf 6 _ rfl
      simp only [Tryz.cellsI, Tryz.cellsV, Tryz.cellsDot, Tryz.cellsB, List.drop_zero, List.drop_succ_cons, List.take_succ_cons, List.take_zero] at h0 h1 h2 h3 h4 h5 h6
      obtain ⟨v, e0, w0⟩ := val_cells _ _ _ h0
      obtain ⟨d, e1, w1⟩ := dot_cells _ _ _ h1
      obtain ⟨i, e2, _, w2⟩ := DataW.trod_int Tryz.underlying3 h2
      obtain ⟨t, e3, _, w3⟩ := DataW.trod_int Tryz.underlying3 h3
      obtain ⟨a, e4, w4⟩ := dot_cells _ _ _ h4
      obtain ⟨j, e5, _, w5⟩ := DataW.trod_int Tryz.underlying3 h5
      obtain ⟨z, e6, _⟩ := DataW.trod_bool Tryz.underlying4 h6
      simp only [V3.cells, List.cons.injEq, and_true] at e0 e1 e2 e3 e4 e5 e6
      obtain ⟨rfl, rfl, rfl⟩ := e0
      obtain ⟨rfl, rfl⟩ := e1
      obtain ⟨rfl, rfl⟩ := e4
      subst e2 e3 e5 e6
      exact ⟨⟨v, d, i, t, a, j, z⟩, rfl, w0, w1, wf_i64 w2, wf_i64 w3, w4, wf_i64 w5⟩
/-- a cell that came in -/
theorem open_cell {H : Type} {enc : TypeId × Value → H} {W : World} {base : Nat} {v : Value} {d : DataW H} {ps : List MemPlace} (hval : Value.okWide Tryz.prog W .any base 72 v) (h : DataW.Trod enc Tryz.prog W 0 (fun _ => true) true 72 v d ps) :
    ∃ (k : Int) (u : V3) (A : Option Addr) (n c : Nat) (l : List P11), v = cellV k u (.slice A n c) ∧ RdP W A n c l ∧ I64 k ∧ u.wf ∧ ∀ x ∈ l, x.wf := by
  obtain ⟨cs, rfl, hsz⟩ := okWide_struct Tryz.underlying72 hval
  obtain ⟨fuel, hf⟩ := h
  obtain ⟨xs, m, _, _, hl, hlen, hf⟩ := DataW.trod_struct Tryz.underlying72 hf
  rw [Tryz.cellsCell] at hl hsz
  obtain ⟨c0, c1, c2, c3, c4, rfl⟩ : ∃ c0 c1 c2 c3 c4, cs = #[c0, c1, c2, c3, c4] := by
    obtain ⟨l⟩ := cs
    match l, hsz with
    | [a, b, c, d, e], _ => exact ⟨a, b, c, d, e, rfl⟩
  match xs, hlen with
  | [y0, y1, y2], _ =>
    have h0 : DataW.trod enc Tryz.prog W 0 (fun _ => true) true m 3 (List.take (Tryz.prog.cellsOf 3) (List.drop 0 [c0, c1, c2, c3, c4])) = some y0 := hf 0 _ rfl
    have h1 : DataW.trod enc Tryz.prog W 0 (fun _ => true) true m 68 (List.take (Tryz.prog.cellsOf 68) (List.drop 1 [c0, c1, c2, c3, c4])) = some y1 := hf 1 _ rfl
    have h2 : DataW.trod enc Tryz.prog W 0 (fun _ => true) true m 70 (List.take (Tryz.prog.cellsOf 70) (List.drop 4 [c0, c1, c2, c3, c4])) = some y2 := hf 2 _ rfl
    simp only [Tryz.cellsI, Tryz.cellsV, Tryz.cellsParts, List.drop_zero, List.drop_succ_cons, List.take_succ_cons, List.take_zero] at h0 h1 h2
    obtain ⟨k, e0, _, w0⟩ := DataW.trod_int Tryz.underlying3 h0
    obtain ⟨u, e1, w1⟩ := val_cells _ _ _ h1
    obtain ⟨A, n, c, l, e2, hrd, w2⟩ := open_sg_in (α := P11) Tryz.underlying70 Tryz.cellsPart part_cells h2 (by decide)
    simp only [V3.cells, List.cons.injEq, and_true] at e0 e1 e2
    obtain ⟨rfl, rfl, rfl⟩ := e1
    subst e0 e2
    exact ⟨k, u, A, n, c, l, rfl, hrd, wf_i64 w0, w1, w2⟩
end Go.Proofs.YtfljhnalmiibeaaGreat

