/- Layer 12: expressions that came in, all the way down. -/
import Derived.Test.YtkpkkkmokgmhfaaRowOpen
import Derived.Test.YtkpkkkmokgmhfaaExpMem
namespace Go.Proofs.Ytkpkkkmokgmhfaa
set_option maxRecDepth 100000
open Go.ChangeShapes Go.WideShapes Go.ChangeAt Go.RowKit

/-- a slice within something that came in: its elements are smaller than it -/
theorem open_sgr {α : Type} {enc : α → List Value} {sz : Nat} {ok : α → Prop} [Inhabited α] {H : Type} {e' : TypeId × Value → H} {P : Program} {W : World} {t e : TypeId} (ht : P.underlying t = some (.slice e)) (hc : P.cellsOf e = sz)
    {fuel : Nat} {cs : List Value} {r} (hf : DataW.trod e' P W 0 (fun _ => true) true fuel t cs = some r)
    (hel : ∀ (n : Nat) (cs : List Value) r', SizeOf.sizeOf r'.1 < SizeOf.sizeOf r.1 → DataW.trod e' P W 0 (fun _ => true) true n e cs = some r' → ∃ x, cs = enc x ∧ ok x) (h1 : 1 ≤ sz) :
    ∃ A n c l, cs = [.slice A n c] ∧ RdG enc sz W A n c l ∧ ∀ x ∈ l, ok x := by
  rcases Go.Deep.open_slice ht hf with ⟨rfl, _⟩ | ⟨a, len, cap, m, n, D, Pl, rfl, _, hl, hm, hmm, rfl, hx⟩
  · exact ⟨none, 0, 0, [], rfl, RdG.nil_ _, by simp⟩
  · simp only [if_true] at hmm
    subst hmm
    rw [hc] at hx
    have hsz : ∀ i, i < len → SizeOf.sizeOf (D i) < SizeOf.sizeOf (DataW.slice ((List.range len).map D) ((List.range (m - len)).map fun j => D (len + j))) := fun i hi => by
      have := List.sizeOf_lt_of_mem (List.mem_map.2 ⟨i, List.mem_range.2 hi, rfl⟩ : D i ∈ (List.range len).map D)
      simp only [DataW.slice.sizeOf_spec]
      omega
    obtain ⟨X, hX⟩ := Go.Deep.choose_lt (n := len) (p := fun i x => W.cells? 0 (a.add (i * sz)) sz = some (enc x) ∧ ok x) (fun i hi => by
      obtain ⟨cs', h2, h3⟩ := hx i (by omega)
      obtain ⟨x, rfl, ho⟩ := hel _ _ _ (hsz i hi) h3
      exact ⟨x, h2, ho⟩)
    refine ⟨some a, _, _, (List.range len).map X, rfl, ⟨by simp, hl, hm, fun h0 => ?_⟩, ?_⟩
    · obtain ⟨b, off, spot⟩ := a
      have hcell : ∀ i, i < len → ∀ q v, (enc (X i))[q]? = some v → W.cell? ((⟨b, off, spot⟩ : Addr).add (i * sz + q)) = some v := by
        intro i hi q v hv
        obtain ⟨_, hlen, hcs⟩ := World.cells?_some (hX i hi).1
        have hq : q < sz := by rw [← hlen]; exact (List.getElem?_eq_some_iff.1 hv).1
        have := hcs q hq
        rw [Go.Deep.add_add] at this
        rw [this, hv]
      obtain ⟨_, hlen0, _⟩ := World.cells?_some (hX 0 h0).1
      have h00 := hcell 0 h0 0 _ (List.getElem?_eq_getElem (by rw [hlen0]; omega))
      have hspot : spot = none := by
        have := World.cell?_spot h00
        simpa [Addr.add] using this
      subst hspot
      have hb : b < W.heap.size := by
        have := block_lt_of_cell h00
        simpa [Addr.add] using this
      refine ⟨b, off, rfl, hb, fun j hj i v hv => ?_⟩
      simp only [List.length_map, List.length_range] at hj
      rw [List.getElem_map, List.getElem_range] at hv
      have h2 := hcell j hj i v hv
      have h3 : (⟨b, off, none⟩ : Addr).add (j * sz + i) = ⟨b, off + j * sz + i, none⟩ := by unfold Addr.add; by_cases hz : j * sz + i = 0 <;> simp [hz, Nat.add_assoc] <;> omega
      rw [h3] at h2
      exact h2
    · intro x hx'
      rw [List.mem_map] at hx'
      obtain ⟨i, hi, rfl⟩ := hx'
      exact (hX i (List.mem_range.1 hi)).2
theorem Try.cellsX : Try.prog.cellsOf 26 = 6 := by kernel_rfl
theorem Try.cellsV_ : Try.prog.cellsOf 23 = 3 := by kernel_rfl
theorem Try.cellsXs : Try.prog.cellsOf 24 = 1 := by kernel_rfl
theorem expr_cells {H : Type} {enc : TypeId × Value → H} {W : World} : ∀ (k n : Nat) (cs : List Value) (r), SizeOf.sizeOf r.1 < k → DataW.trod enc Try.prog W 0 (fun _ => true) true n 26 cs = some r → ∃ x : E6, cs = x.cells ∧ ReadsE W x
  | 0, _, _, _, hk, _ => absurd hk (by omega)
  | k + 1, n, cs, r, hk, h => by
    obtain ⟨xs, m, _, rfl, hl, hlen, hf⟩ := DataW.trod_struct Try.underlying26 h
    rw [Try.cellsX] at hl
    match xs, hlen with
    | [y0, y1, y2, y3], _ =>
      match cs, hl with
      | [c0, c1, c2, c3, c4, c5], _ =>
        have h0 : DataW.trod enc Try.prog W 0 (fun _ => true) true m 3 (List.take (Try.prog.cellsOf 3) (List.drop 0 [c0, c1, c2, c3, c4, c5])) = some y0 := hf 0 _ rfl
        have h1 : DataW.trod enc Try.prog W 0 (fun _ => true) true m 3 (List.take (Try.prog.cellsOf 3) (List.drop 1 [c0, c1, c2, c3, c4, c5])) = some y1 := hf 1 _ rfl
        have h2 : DataW.trod enc Try.prog W 0 (fun _ => true) true m 23 (List.take (Try.prog.cellsOf 23) (List.drop 2 [c0, c1, c2, c3, c4, c5])) = some y2 := hf 2 _ rfl
        have h3 : DataW.trod enc Try.prog W 0 (fun _ => true) true m 24 (List.take (Try.prog.cellsOf 24) (List.drop 5 [c0, c1, c2, c3, c4, c5])) = some y3 := hf 3 _ rfl
        simp only [Try.cellsI, Try.cellsV_, Try.cellsXs, List.drop_zero, List.drop_succ_cons, List.take_succ_cons, List.take_zero] at h0 h1 h2 h3
        obtain ⟨a0, e0, _, _⟩ := DataW.trod_int Try.underlying3 h0
        obtain ⟨a1, e1, _, _⟩ := DataW.trod_int Try.underlying3 h1
        obtain ⟨u0, u1, u2, m2, _, hl2, g0, g1, g2⟩ := Go.Deep.trod_struct3 Try.underlying23 h2
        simp only [Try.cellsI, Try.cellsS] at g0 g1 g2
        obtain ⟨b0, f0, _, _⟩ := DataW.trod_int Try.underlying3 g0
        obtain ⟨b1, f1, _, _⟩ := DataW.trod_int Try.underlying3 g1
        obtain ⟨b2, f2, _, _⟩ := DataW.trod_string Try.underlying9 g2
        have hs : SizeOf.sizeOf y3.1 < k := by
          simp only [List.map_cons, List.map_nil, DataW.agg.sizeOf_spec, List.cons.sizeOf_spec] at hk
          omega
        obtain ⟨A, q, c, l, e3, rd, ok⟩ := open_sgr (α := E6) (ok := ReadsE W) Try.underlying24 Try.cellsX h3 (fun n cs r' hr hh => expr_cells k n cs r' (by omega) hh) (by decide)
        simp at e0 e1 f0 f1 f2 e3
        subst e0 e1 f0 f1 f2 e3
        exact ⟨⟨a0, a1, ⟨b0, b1, b2⟩, A, q, c, l⟩, rfl, .mk rd ok⟩
/-- an expression that came in -/
theorem open_expr {H : Type} {enc : TypeId × Value → H} {W : World} {base : Nat} {v : Value} {d : DataW H} {ps : List MemPlace} (hval : Value.okWide Try.prog W .any base 26 v) (h : DataW.Trod enc Try.prog W 0 (fun _ => true) true 26 v d ps) :
    ∃ e : E6, v = e.agg ∧ ReadsE W e := by
  obtain ⟨cs, rfl, hsz⟩ := okWide_struct Try.underlying26 hval
  obtain ⟨fuel, hf⟩ := h
  obtain ⟨e, h1, h2⟩ := expr_cells _ _ _ _ (Nat.lt_succ_self _) hf
  exact ⟨e, by rw [show cs = e.cells.toArray from Array.toList_inj.1 h1]; rfl, h2⟩
end Go.Proofs.Ytkpkkkmokgmhfaa
