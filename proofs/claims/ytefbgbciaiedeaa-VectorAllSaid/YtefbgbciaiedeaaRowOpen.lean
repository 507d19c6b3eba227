/- Layer 3: rows and columns that came in, and what they were read as. -/
import Derived.Test.YtefbgbciaiedeaaLaw
import Derived.Test.YtefbgbciaiedeaaRowMem
import Derived.Deep.Strs
import Derived.Lib.SmallJoins
namespace Go.Proofs.Ytefbgbciaiedeaa
set_option maxRecDepth 100000
open Go.ChangeShapes Go.WideShapes Go.ChangeAt Go.RowKit

/-- a slice whose elements take several cells each, that came in -/
theorem open_sg {α : Type} {enc : α → List Value} {sz : Nat} {ok : α → Prop} [Inhabited α] {H : Type} {e' : TypeId × Value → H} {P : Program} {W : World} {base : Nat} {t e : TypeId} (ht : P.underlying t = some (.slice e)) (hc : P.cellsOf e = sz)
    (hel : ∀ (n : Nat) (cs : List Value) r, DataW.trod e' P W 0 (fun _ => true) true n e cs = some r → ∃ x, cs = enc x ∧ ok x)
    {v : Value} {d : DataW H} {ps : List MemPlace} (hval : Value.okWide P W .any base t v) (h : DataW.Trod e' P W 0 (fun _ => true) true t v d ps) (h1 : 1 ≤ sz) :
    ∃ A n c l, v = .slice A n c ∧ RdG enc sz W A n c l ∧ ∀ x ∈ l, ok x := by
  obtain ⟨a0, len, cap, rfl⟩ := okWide_slice ht hval
  obtain ⟨fuel, hf⟩ := h
  rcases Go.Deep.open_slice ht hf with ⟨hcs, _⟩ | ⟨a, len', cap', m, n, D, Pl, hcs, _, hl, hm, hmm, _, hx⟩
  · simp [Value.cells] at hcs
    obtain ⟨rfl, rfl, rfl⟩ := hcs
    exact ⟨none, 0, 0, [], rfl, RdG.nil_ _, by simp⟩
  · simp [Value.cells] at hcs
    obtain ⟨rfl, rfl, rfl⟩ := hcs
    simp only [if_true] at hmm
    subst hmm
    rw [hc] at hx
    obtain ⟨X, hX⟩ := Go.Deep.choose_lt (n := len) (p := fun i x => W.cells? 0 (a.add (i * sz)) sz = some (enc x) ∧ ok x) (fun i hi => by
      obtain ⟨cs', h2, h3⟩ := hx i (by omega)
      obtain ⟨x, rfl, ho⟩ := hel _ _ _ h3
      exact ⟨x, h2, ho⟩)
    refine ⟨some a, _, _, (List.range len).map X, rfl, ⟨by simp, hl, hm, fun h0 => ?_⟩, ?_⟩
    · obtain ⟨b, off, spot⟩ := a
      have hcell : ∀ i, i < len → ∀ q v, (enc (X i))[q]? = some v → W.cell? ((⟨b, off, spot⟩ : Addr).add (i * sz + q)) = some v := by
        intro i hi q v hv
        obtain ⟨_, hlen, hcs⟩ := World.cells?_some (hX i hi).1
        have hq : q < sz := by rw [← hlen]; exact (List.getElem?_eq_some_iff.1 hv).1
        have := hcs q hq
        rw [Go.Deep.add_add] at this
        rw [this, hv]
      obtain ⟨_, hlen0, _⟩ := World.cells?_some (hX 0 h0).1
      have h00 := hcell 0 h0 0 _ (List.getElem?_eq_getElem (by rw [hlen0]; omega))
      have hspot : spot = none := by
        have := World.cell?_spot h00
        simpa [Addr.add] using this
      subst hspot
      have hb : b < W.heap.size := by
        have := block_lt_of_cell h00
        simpa [Addr.add] using this
      refine ⟨b, off, rfl, hb, fun j hj i v hv => ?_⟩
      simp only [List.length_map, List.length_range] at hj
      rw [List.getElem_map, List.getElem_range] at hv
      have h2 := hcell j hj i v hv
      have h3 : (⟨b, off, none⟩ : Addr).add (j * sz + i) = ⟨b, off + j * sz + i, none⟩ := by unfold Addr.add; by_cases hz : j * sz + i = 0 <;> simp [hz, Nat.add_assoc] <;> omega
      rw [h3] at h2
      exact h2
    · intro x hx'
      rw [List.mem_map] at hx'
      obtain ⟨i, hi, rfl⟩ := hx'
      exact (hX i (List.mem_range.1 hi)).2
theorem Try.cellsI : Try.prog.cellsOf 3 = 1 := by kernel_rfl
theorem Try.cellsS : Try.prog.cellsOf 9 = 1 := by kernel_rfl
theorem Try.cellsB : Try.prog.cellsOf 4 = 1 := by kernel_rfl
def V3.wf (x : V3) : Prop := (-9223372036854775808 ≤ x.k ∧ x.k ≤ 9223372036854775807) ∧ (-9223372036854775808 ≤ x.n ∧ x.n ≤ 9223372036854775807) ∧ x.s.size ≤ maxLen
instance : Inhabited V3 := ⟨⟨0, 0, ⟨#[]⟩⟩⟩
instance : Inhabited C4 := ⟨⟨⟨#[]⟩, 0, 0, false⟩⟩

end Go.Proofs.Ytefbgbciaiedeaa
