/- Layer 3: rows and columns that came in, and what they were read as. -/
import Derived.Test.YtkpkkkmokgmhfaaLaw
import Derived.Test.YtkpkkkmokgmhfaaRowMem
import Derived.Deep.Strs
import Derived.Lib.SmallJoins
namespace Go.Proofs.Ytkpkkkmokgmhfaa
set_option maxRecDepth 100000
open Go.ChangeShapes Go.WideShapes Go.ChangeAt Go.RowKit

/-- a slice whose elements take several cells each, that came in -/
theorem open_sg {α : Type} {enc : α → List Value} {sz : Nat} {ok : α → Prop} [Inhabited α] {H : Type} {e' : TypeId × Value → H} {P : Program} {W : World} {base : Nat} {t e : TypeId} (ht : P.underlying t = some (.slice e)) (hc : P.cellsOf e = sz)
    (hel : ∀ (n : Nat) (cs : List Value) r, DataW.trod e' P W 0 (fun _ => true) true n e cs = some r → ∃ x, cs = enc x ∧ ok x)
    {v : Value} {d : DataW H} {ps : List MemPlace} (hval : Value.okWide P W .any base t v) (h : DataW.Trod e' P W 0 (fun _ => true) true t v d ps) (h1 : 1 ≤ sz) :
    ∃ A n c l, v = .slice A n c ∧ RdG enc sz W A n c l ∧ ∀ x ∈ l, ok x := by
  obtain ⟨a0, len, cap, rfl⟩ := okWide_slice ht hval
  obtain ⟨fuel, hf⟩ := h
  rcases Go.Deep.open_slice ht hf with ⟨hcs, _⟩ | ⟨a, len', cap', m, n, D, Pl, hcs, _, hl, hm, hmm, _, hx⟩
  · simp [Value.cells] at hcs
    obtain ⟨rfl, rfl, rfl⟩ := hcs
    exact ⟨none, 0, 0, [], rfl, RdG.nil_ _, by simp⟩
  · simp [Value.cells] at hcs
    obtain ⟨rfl, rfl, rfl⟩ := hcs
    simp only [if_true] at hmm
    subst hmm
    rw [hc] at hx
    obtain ⟨X, hX⟩ := Go.Deep.choose_lt (n := len) (p := fun i x => W.cells? 0 (a.add (i * sz)) sz = some (enc x) ∧ ok x) (fun i hi => by
      obtain ⟨cs', h2, h3⟩ := hx i (by omega)
      obtain ⟨x, rfl, ho⟩ := hel _ _ _ h3
      exact ⟨x, h2, ho⟩)
    refine ⟨some a, _, _, (List.range len).map X, rfl, ⟨by simp, hl, hm, fun h0 => ?_⟩, ?_⟩
    · obtain ⟨b, off, spot⟩ := a
      have hcell : ∀ i, i < len → ∀ q v, (enc (X i))[q]? = some v → W.cell? ((⟨b, off, spot⟩ : Addr).add (i * sz + q)) = some v := by
        intro i hi q v hv
        obtain ⟨_, hlen, hcs⟩ := World.cells?_some (hX i hi).1
        have hq : q < sz := by rw [← hlen]; exact (List.getElem?_eq_some_iff.1 hv).1
        have := hcs q hq
        rw [Go.Deep.add_add] at this
        rw [this, hv]
      obtain ⟨_, hlen0, _⟩ := World.cells?_some (hX 0 h0).1
      have h00 := hcell 0 h0 0 _ (List.getElem?_eq_getElem (by rw [hlen0]; omega))
      have hspot : spot = none := by
        have := World.cell?_spot h00
        simpa [Addr.add] using this
      subst hspot
      have hb : b < W.heap.size := by
        have := block_lt_of_cell h00
        simpa [Addr.add] using this
      refine ⟨b, off, rfl, hb, fun j hj i v hv => ?_⟩
      simp only [List.length_map, List.length_range] at hj
      rw [List.getElem_map, List.getElem_range] at hv
      have h2 := hcell j hj i v hv
      have h3 : (⟨b, off, none⟩ : Addr).add (j * sz + i) = ⟨b, off + j * sz + i, none⟩ := by unfold Addr.add; by_cases hz : j * sz + i = 0 <;> simp [hz, Nat.add_assoc] <;> omega
      rw [h3] at h2
      exact h2
    · intro x hx'
      rw [List.mem_map] at hx'
      obtain ⟨i, hi, rfl⟩ := hx'
      exact (hX i (List.mem_range.1 hi)).2
theorem Try.cellsI : Try.prog.cellsOf 3 = 1 := by kernel_rfl
theorem Try.cellsS : Try.prog.cellsOf 9 = 1 := by kernel_rfl
theorem Try.cellsB : Try.prog.cellsOf 4 = 1 := by kernel_rfl
theorem Try.cellsV : Try.prog.cellsOf 23 = 3 := by kernel_rfl
theorem Try.cellsC : Try.prog.cellsOf 42 = 4 := by kernel_rfl

def V3.wf (x : V3) : Prop := (-9223372036854775808 ≤ x.k ∧ x.k ≤ 9223372036854775807) ∧ (-9223372036854775808 ≤ x.n ∧ x.n ≤ 9223372036854775807) ∧ x.s.size ≤ maxLen
instance : Inhabited V3 := ⟨⟨0, 0, ⟨#[]⟩⟩⟩
instance : Inhabited C4 := ⟨⟨⟨#[]⟩, 0, 0, false⟩⟩

theorem val_cells {H : Type} {enc : TypeId × Value → H} {W : World} (n : Nat) (cs : List Value) (r) (h : DataW.trod enc Try.prog W 0 (fun _ => true) true n 23 cs = some r) : ∃ x : V3, cs = x.cells ∧ x.wf := by
  obtain ⟨y0, y1, y2, m, _, hl, h0, h1, h2⟩ := Go.Deep.trod_struct3 Try.underlying23 h
  rw [Try.cellsV] at hl
  match cs, hl with
  | [a, b, c], _ =>
    simp only [Try.cellsI, Try.cellsS] at h0 h1 h2
    obtain ⟨k, e0, _, w0⟩ := DataW.trod_int Try.underlying3 h0
    obtain ⟨n', e1, _, w1⟩ := DataW.trod_int Try.underlying3 h1
    obtain ⟨s, e2, _, w2⟩ := DataW.trod_string Try.underlying9 h2
    simp at e0 e1 e2
    subst e0 e1 e2
    exact ⟨⟨k, n', s⟩, rfl, wf_i64 w0, wf_i64 w1, w2⟩

theorem col_cells {H : Type} {enc : TypeId × Value → H} {W : World} (n : Nat) (cs : List Value) (r) (h : DataW.trod enc Try.prog W 0 (fun _ => true) true n 42 cs = some r) : ∃ x : C4, cs = x.cells ∧ True := by
  obtain ⟨xs, m, _, _, hl, hlen, hf⟩ := DataW.trod_struct Try.underlying42 h
  rw [Try.cellsC] at hl
  match xs, hlen with
  | [y0, y1, y2, y3], _ =>
    match cs, hl with
    | [a, b, c, d], _ =>
      have h0 : DataW.trod enc Try.prog W 0 (fun _ => true) true m 9 (List.take (Try.prog.cellsOf 9) (List.drop 0 [a, b, c, d])) = some y0 := hf 0 _ rfl
      have h1 : DataW.trod enc Try.prog W 0 (fun _ => true) true m 3 (List.take (Try.prog.cellsOf 3) (List.drop 1 [a, b, c, d])) = some y1 := hf 1 _ rfl
      have h2 : DataW.trod enc Try.prog W 0 (fun _ => true) true m 3 (List.take (Try.prog.cellsOf 3) (List.drop 2 [a, b, c, d])) = some y2 := hf 2 _ rfl
      have h3 : DataW.trod enc Try.prog W 0 (fun _ => true) true m 4 (List.take (Try.prog.cellsOf 4) (List.drop 3 [a, b, c, d])) = some y3 := hf 3 _ rfl
      simp only [Try.cellsI, Try.cellsS, Try.cellsB] at h0 h1 h2 h3
      obtain ⟨s, e0, _, w0⟩ := DataW.trod_string Try.underlying9 h0
      obtain ⟨k, e1, _, w1⟩ := DataW.trod_int Try.underlying3 h1
      obtain ⟨t, e2, _, w2⟩ := DataW.trod_int Try.underlying3 h2
      obtain ⟨z, e3, _⟩ := DataW.trod_bool Try.underlying4 h3
      simp at e0 e1 e2 e3
      subst e0 e1 e2 e3
      exact ⟨⟨s, k, t, z⟩, rfl, trivial⟩

theorem open_row {H : Type} {enc : TypeId × Value → H} {W : World} {base : Nat} {v : Value} {d : DataW H} {ps : List MemPlace} (hval : Value.okWide Try.prog W .any base 28 v) (h : DataW.Trod enc Try.prog W 0 (fun _ => true) true 28 v d ps) :
    ∃ A n c l, v = .slice A n c ∧ RdV W A n c l ∧ ∀ x ∈ l, x.wf :=
  open_sg (α := V3) Try.underlying28 Try.cellsV val_cells hval h (by decide)
theorem open_cols {H : Type} {enc : TypeId × Value → H} {W : World} {base : Nat} {v : Value} {d : DataW H} {ps : List MemPlace} (hval : Value.okWide Try.prog W .any base 40 v) (h : DataW.Trod enc Try.prog W 0 (fun _ => true) true 40 v d ps) :
    ∃ A n c l, v = .slice A n c ∧ RdC W A n c l := by
  obtain ⟨A, n, c, l, h1, h2, _⟩ := open_sg (α := C4) (ok := fun _ => True) Try.underlying40 Try.cellsC col_cells hval h (by decide)
  exact ⟨A, n, c, l, h1, h2⟩
theorem open_val {H : Type} {enc : TypeId × Value → H} {W : World} {base : Nat} {v : Value} {d : DataW H} {ps : List MemPlace} (hval : Value.okWide Try.prog W .any base 23 v) (h : DataW.Trod enc Try.prog W 0 (fun _ => true) true 23 v d ps) :
    ∃ x : V3, v = x.agg ∧ x.wf := by
  obtain ⟨x0, y0, z0, dx0, dy0, dz0, m0, rfl, _, _, tx0, ty0, tz0⟩ := Go.Joins.open_agg3 Try.underlying23 (by kernel_rfl) (by kernel_rfl) hval h
  obtain ⟨k, ek, _, wk⟩ := DataW.trod_int Try.underlying3 tx0
  obtain ⟨n, en, _, wn⟩ := DataW.trod_int Try.underlying3 ty0
  obtain ⟨s, es, _, ws⟩ := DataW.trod_string Try.underlying9 tz0
  obtain rfl := List.singleton_inj.1 ek
  obtain rfl := List.singleton_inj.1 en
  obtain rfl := List.singleton_inj.1 es
  exact ⟨⟨k, n, s⟩, rfl, wf_i64 wk, wf_i64 wn, ws⟩
end Go.Proofs.Ytkpkkkmokgmhfaa
