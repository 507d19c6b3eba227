/- Layer 11: schemas and tables that came in, no longer than any machine's memory. -/
import Derived.Test.YtogfnjlhfbpneaaRowOpen
import Derived.Test.YtogfnjlhfbpneaaSchFew
import Derived.SizedLaws
namespace Go.Proofs.Ytogfnjlhfbpneaa
set_option maxRecDepth 100000
open Go.ChangeShapes Go.WideShapes Go.ChangeAt Go.RowKit

theorem weightsAll_mem {H : Type} {P : Program} {e : TypeId} : ∀ {l : List (DataW H)} {d : DataW H}, d ∈ l → ∀ n ∈ d.weights P e, n ∈ DataW.weightsAll P e l
  | x :: l, d, h, n, hn => by
    simp only [DataW.weightsAll, List.mem_append]
    rcases List.mem_cons.1 h with rfl | h
    · exact .inl hn
    · exact .inr (weightsAll_mem h n hn)
/-- a slice whose elements take several cells each, within something that came in, and its size -/
theorem open_sgz {α : Type} {enc : α → List Value} {sz : Nat} {ok : α → Prop} [Inhabited α] {H : Type} {e' : TypeId × Value → H} {P : Program} {W : World} {t e : TypeId} (ht : P.underlying t = some (.slice e)) (hc : P.cellsOf e = sz) (hb : 1 ≤ P.bytesOf e)
    (hel : ∀ (n : Nat) (cs : List Value) r, DataW.trod e' P W 0 (fun _ => true) true n e cs = some r → (∀ x ∈ r.1.weights P e, x ≤ reachBytes) → ∃ x, cs = enc x ∧ ok x)
    {fuel : Nat} {cs : List Value} {r} (hf : DataW.trod e' P W 0 (fun _ => true) true fuel t cs = some r) (hw : ∀ x ∈ r.1.weights P t, x ≤ reachBytes) (h1 : 1 ≤ sz) :
    ∃ A n c l, cs = [.slice A n c] ∧ RdG enc sz W A n c l ∧ (∀ x ∈ l, ok x) ∧ n ≤ 140737488351232 := by
  rcases Go.Deep.open_slice ht hf with ⟨rfl, _⟩ | ⟨a, len, cap, m, n, D, Pl, rfl, _, hl, hm, hmm, rfl, hx⟩
  · exact ⟨none, 0, 0, [], rfl, RdG.nil_ _, by simp, by omega⟩
  · simp only [if_true] at hmm
    subst hmm
    rw [hc] at hx
    have hwd : ∀ i, i < len → ∀ x ∈ (D i).weights P e, x ≤ reachBytes := fun i hi x hx2 => hw x (by
      simp only [DataW.weights, ht, List.mem_cons, List.mem_append]
      exact .inr (.inl (weightsAll_mem (List.mem_map.2 ⟨i, List.mem_range.2 hi, rfl⟩) x hx2)))
    have hn : len ≤ 140737488351232 := by
      have := hw ((((List.range len).map D).length + ((List.range (m - len)).map fun j => D (len + j)).length) * P.bytesOf e) (by simp [DataW.weights, ht])
      simp only [List.length_map, List.length_range, reachBytes] at this
      have h2 : len * 1 ≤ (len + (m - len)) * P.bytesOf e := Nat.mul_le_mul (by omega) hb
      omega
    obtain ⟨X, hX⟩ := Go.Deep.choose_lt (n := len) (p := fun i x => W.cells? 0 (a.add (i * sz)) sz = some (enc x) ∧ ok x) (fun i hi => by
      obtain ⟨cs', h2, h3⟩ := hx i (by omega)
      obtain ⟨x, rfl, ho⟩ := hel _ _ _ h3 (hwd i hi)
      exact ⟨x, h2, ho⟩)
    refine ⟨some a, _, _, (List.range len).map X, rfl, ⟨by simp, hl, hm, fun h0 => ?_⟩, ?_, hn⟩
    · obtain ⟨b, off, spot⟩ := a
      have hcell : ∀ i, i < len → ∀ q v, (enc (X i))[q]? = some v → W.cell? ((⟨b, off, spot⟩ : Addr).add (i * sz + q)) = some v := by
        intro i hi q v hv
        obtain ⟨_, hlen, hcs⟩ := World.cells?_some (hX i hi).1
        have hq : q < sz := by rw [← hlen]; exact (List.getElem?_eq_some_iff.1 hv).1
        have := hcs q hq
        rw [Go.Deep.add_add] at this
        rw [this, hv]
      obtain ⟨_, hlen0, _⟩ := World.cells?_some (hX 0 h0).1
      have h00 := hcell 0 h0 0 _ (List.getElem?_eq_getElem (by rw [hlen0]; omega))
      have hspot : spot = none := by
        have := World.cell?_spot h00
        simpa [Addr.add] using this
      subst hspot
      have hb : b < W.heap.size := by
        have := block_lt_of_cell h00
        simpa [Addr.add] using this
      refine ⟨b, off, rfl, hb, fun j hj i v hv => ?_⟩
      simp only [List.length_map, List.length_range] at hj
      rw [List.getElem_map, List.getElem_range] at hv
      have h2 := hcell j hj i v hv
      have h3 : (⟨b, off, none⟩ : Addr).add (j * sz + i) = ⟨b, off + j * sz + i, none⟩ := by unfold Addr.add; by_cases hz : j * sz + i = 0 <;> simp [hz, Nat.add_assoc] <;> omega
      rw [h3] at h2
      exact h2
    · intro x hx'
      rw [List.mem_map] at hx'
      obtain ⟨i, hi, rfl⟩ := hx'
      exact (hX i (List.mem_range.1 hi)).2

def intC (z : Int) : List Value := [.int .i64 z]
theorem rd_of_g {w : World} {A : Option Addr} {n c : Nat} {l : List Int} (h : RdG intC 1 w A n c l) : Rd w A n c (vals .i64 l) := by
  obtain ⟨hl, h1, h2, hx⟩ := h
  refine ⟨by simpa using hl, h1, h2, fun h0 => ?_⟩
  obtain ⟨b, o, rfl, hb, hc⟩ := hx h0
  refine ⟨b, o, rfl, hb, fun j hj => ?_⟩
  have hj2 : j < l.length := by simpa using hj
  have := hc j hj2 0 _ rfl
  rw [Nat.mul_one, Nat.add_zero] at this
  rw [this]
  simp
instance : Inhabited F3 := ⟨⟨0, 0, 0⟩⟩
instance : Inhabited T6 := ⟨⟨⟨#[]⟩, none, 0, 0, [], none, 0, 0, [], none, 0, 0, none, 0, 0, [], none, 0, 0, []⟩⟩
theorem Try.cellsT : Try.prog.cellsOf 39 = 6 := by kernel_rfl
theorem Try.cellsFk : Try.prog.cellsOf 42 = 3 := by kernel_rfl
theorem Try.cellsSm : Try.prog.cellsOf 66 = 3 := by kernel_rfl
theorem Try.cellsCs : Try.prog.cellsOf 33 = 1 := by kernel_rfl
theorem Try.cellsIs : Try.prog.cellsOf 34 = 1 := by kernel_rfl
theorem Try.cellsEs : Try.prog.cellsOf 35 = 1 := by kernel_rfl
theorem Try.cellsFs : Try.prog.cellsOf 36 = 1 := by kernel_rfl
theorem Try.cellsSs : Try.prog.cellsOf 37 = 1 := by kernel_rfl
theorem int_cells {H : Type} {enc : TypeId × Value → H} {W : World} (n : Nat) (cs : List Value) (r) (h : DataW.trod enc Try.prog W 0 (fun _ => true) true n 3 cs = some r) : ∃ x : Int, cs = intC x ∧ True := by
  obtain ⟨k, e0, _, _⟩ := DataW.trod_int Try.underlying3 h
  exact ⟨k, e0, trivial⟩
theorem fk_cells {H : Type} {enc : TypeId × Value → H} {W : World} (n : Nat) (cs : List Value) (r) (h : DataW.trod enc Try.prog W 0 (fun _ => true) true n 42 cs = some r) : ∃ x : F3, cs = x.cells ∧ True := by
  obtain ⟨y0, y1, y2, m, _, hl, h0, h1, h2⟩ := Go.Deep.trod_struct3 Try.underlying42 h
  rw [Try.cellsFk] at hl
  match cs, hl with
  | [a, b, c], _ =>
    simp only [Try.cellsI] at h0 h1 h2
    obtain ⟨k, e0, _, w0⟩ := DataW.trod_int Try.underlying3 h0
    obtain ⟨n', e1, _, w1⟩ := DataW.trod_int Try.underlying3 h1
    obtain ⟨s, e2, _, w2⟩ := DataW.trod_int Try.underlying3 h2
    simp at e0 e1 e2
    subst e0 e1 e2
    exact ⟨⟨k, n', s⟩, rfl, trivial⟩
theorem sm_cells {H : Type} {enc : TypeId × Value → H} {W : World} (n : Nat) (cs : List Value) (r) (h : DataW.trod enc Try.prog W 0 (fun _ => true) true n 66 cs = some r) : ∃ x : F3, cs = x.cells ∧ True := by
  obtain ⟨y0, y1, y2, m, _, hl, h0, h1, h2⟩ := Go.Deep.trod_struct3 Try.underlying66 h
  rw [Try.cellsSm] at hl
  match cs, hl with
  | [a, b, c], _ =>
    simp only [Try.cellsI] at h0 h1 h2
    obtain ⟨k, e0, _, w0⟩ := DataW.trod_int Try.underlying3 h0
    obtain ⟨n', e1, _, w1⟩ := DataW.trod_int Try.underlying3 h1
    obtain ⟨s, e2, _, w2⟩ := DataW.trod_int Try.underlying3 h2
    simp at e0 e1 e2
    subst e0 e1 e2
    exact ⟨⟨k, n', s⟩, rfl, trivial⟩
/-- a slice of which no more is asked -/
theorem open_bare {H : Type} {e' : TypeId × Value → H} {P : Program} {W : World} {t e : TypeId} (ht : P.underlying t = some (.slice e)) (hb : 1 ≤ P.bytesOf e)
    {fuel : Nat} {cs : List Value} {r} (hf : DataW.trod e' P W 0 (fun _ => true) true fuel t cs = some r) (hw : ∀ x ∈ r.1.weights P t, x ≤ reachBytes) : ∃ A n c, cs = [.slice A n c] ∧ (n ≤ c ∧ c ≤ maxLen) ∧ n ≤ 140737488351232 := by
  rcases Go.Deep.open_slice ht hf with ⟨rfl, _⟩ | ⟨a, len, cap, m, n, D, Pl, rfl, _, hl, hm, hmm, rfl, _⟩
  · exact ⟨none, 0, 0, rfl, ⟨Nat.le_refl _, Nat.zero_le _⟩, by omega⟩
  · refine ⟨_, _, _, rfl, ⟨hl, hm⟩, ?_⟩
    have := hw ((((List.range len).map D).length + ((List.range (m - len)).map fun j => D (len + j)).length) * P.bytesOf e) (by simp [DataW.weights, ht])
    simp only [List.length_map, List.length_range, reachBytes] at this
    have h2 : len * 1 ≤ (len + (m - len)) * P.bytesOf e := Nat.mul_le_mul (by omega) hb
    omega

theorem tab_cells {H : Type} {enc : TypeId × Value → H} {W : World} (n : Nat) (cs : List Value) (r) (h : DataW.trod enc Try.prog W 0 (fun _ => true) true n 39 cs = some r) (hw : ∀ x ∈ r.1.weights Try.prog 39, x ≤ reachBytes) : ∃ x : T6, cs = x.cells ∧ (x.Reads W ∧ x.Small) := by
  obtain ⟨xs, m, _, rfl, hl, hlen, hf⟩ := DataW.trod_struct Try.underlying39 h
  rw [Try.cellsT] at hl
  match xs, hlen with
  | [y0, y1, y2, y3, y4, y5], _ =>
    have hwp : ∀ x, (x ∈ y1.1.weights Try.prog 33 ∨ x ∈ y2.1.weights Try.prog 34 ∨ x ∈ y3.1.weights Try.prog 35 ∨ x ∈ y4.1.weights Try.prog 36 ∨ x ∈ y5.1.weights Try.prog 37) → x ≤ reachBytes := fun x hx => hw x (by
      simp only [DataW.weights, Try.underlying39]
      show x ∈ _ ++ (_ ++ (_ ++ (_ ++ (_ ++ (_ ++ _)))))
      simp only [List.mem_append]
      rcases hx with h | h | h | h | h
      · exact .inr (.inl h)
      · exact .inr (.inr (.inl h))
      · exact .inr (.inr (.inr (.inl h)))
      · exact .inr (.inr (.inr (.inr (.inl h))))
      · exact .inr (.inr (.inr (.inr (.inr (.inl h))))))
    match cs, hl with
    | [c0, c1, c2, c3, c4, c5], _ =>
      have h0 : DataW.trod enc Try.prog W 0 (fun _ => true) true m 9 (List.take (Try.prog.cellsOf 9) (List.drop 0 [c0, c1, c2, c3, c4, c5])) = some y0 := hf 0 _ rfl
      have h1 : DataW.trod enc Try.prog W 0 (fun _ => true) true m 33 (List.take (Try.prog.cellsOf 33) (List.drop 1 [c0, c1, c2, c3, c4, c5])) = some y1 := hf 1 _ rfl
      have h2 : DataW.trod enc Try.prog W 0 (fun _ => true) true m 34 (List.take (Try.prog.cellsOf 34) (List.drop 2 [c0, c1, c2, c3, c4, c5])) = some y2 := hf 2 _ rfl
      have h3 : DataW.trod enc Try.prog W 0 (fun _ => true) true m 35 (List.take (Try.prog.cellsOf 35) (List.drop 3 [c0, c1, c2, c3, c4, c5])) = some y3 := hf 3 _ rfl
      have h4 : DataW.trod enc Try.prog W 0 (fun _ => true) true m 36 (List.take (Try.prog.cellsOf 36) (List.drop 4 [c0, c1, c2, c3, c4, c5])) = some y4 := hf 4 _ rfl
      have h5 : DataW.trod enc Try.prog W 0 (fun _ => true) true m 37 (List.take (Try.prog.cellsOf 37) (List.drop 5 [c0, c1, c2, c3, c4, c5])) = some y5 := hf 5 _ rfl
      simp only [Try.cellsS, Try.cellsCs, Try.cellsIs, Try.cellsEs, Try.cellsFs, Try.cellsSs, List.drop_zero, List.drop_succ_cons, List.take_succ_cons, List.take_zero] at h0 h1 h2 h3 h4 h5
      obtain ⟨s, e0, _, _⟩ := DataW.trod_string Try.underlying9 h0
      obtain ⟨A1, n1, k1, l1, e1, r1, _, z1⟩ := open_sgz (α := C4) (ok := fun _ => True) Try.underlying33 Try.cellsC (by decide +kernel) (fun n cs r h _ => col_cells n cs r h) h1 (fun x hx => hwp x (.inl hx)) (by decide)
      obtain ⟨A2, n2, k2, l2, e2, r2, _, z2⟩ := open_sgz (α := Int) (ok := fun _ => True) Try.underlying34 Try.cellsI (by decide +kernel) (fun n cs r h _ => int_cells n cs r h) h2 (fun x hx => hwp x (.inr (.inl hx))) (by decide)
      obtain ⟨A3, n3, k3, e3, r3, z3⟩ := open_bare Try.underlying35 (by decide +kernel) h3 (fun x hx => hwp x (.inr (.inr (.inl hx))))
      obtain ⟨A4, n4, k4, l4, e4, r4, _, z4⟩ := open_sgz (α := F3) (ok := fun _ => True) Try.underlying36 Try.cellsFk (by decide +kernel) (fun n cs r h _ => fk_cells n cs r h) h4 (fun x hx => hwp x (.inr (.inr (.inr (.inl hx))))) (by decide)
      obtain ⟨A5, n5, k5, l5, e5, r5, _, z5⟩ := open_sgz (α := F3) (ok := fun _ => True) Try.underlying37 Try.cellsSm (by decide +kernel) (fun n cs r h _ => sm_cells n cs r h) h5 (fun x hx => hwp x (.inr (.inr (.inr (.inr hx))))) (by decide)
      simp only [List.cons.injEq, and_true] at e0 e1 e2 e3 e4 e5
      subst e0 e1 e2 e3 e4 e5
      refine ⟨⟨s, A1, n1, k1, l1, A2, n2, k2, l2, A3, n3, k3, A4, n4, k4, l4, A5, n5, k5, l5⟩, rfl, ⟨r1, rd_of_g r2, r3, r4, r5⟩, ?_⟩
      show n1 + n2 + n3 + n4 + n5 ≤ 1000000000000000
      omega

/-- a schema that came in -/
theorem open_schema {H : Type} {enc : TypeId × Value → H} {W : World} {base : Nat} {v : Value} {d : DataW H} {ps : List MemPlace} (hval : Value.okWide Try.prog W .any base 26 v) (h : DataW.Trod enc Try.prog W 0 (fun _ => true) true 26 v d ps) (hw : ∀ x ∈ d.weights Try.prog 26, x ≤ reachBytes) :
    ∃ A n c l, v = .agg #[.slice A n c] ∧ RdS W A n c l ∧ ∀ t ∈ l, t.Small := by
  obtain ⟨cs, rfl, hsz⟩ := okWide_struct Try.underlying26 hval
  obtain ⟨fuel, hf⟩ := h
  obtain ⟨xs, m, _, hd, hl, hlen, hf⟩ := DataW.trod_struct Try.underlying26 hf
  have hc1 : Try.prog.cellsOf 26 = 1 := by kernel_rfl
  have hc2 : Try.prog.cellsOf 24 = 1 := by kernel_rfl
  rw [hc1] at hsz
  obtain ⟨c0, rfl⟩ : ∃ c0, cs = #[c0] := by
    obtain ⟨l⟩ := cs
    match l, hsz with
    | [a], _ => exact ⟨a, rfl⟩
  match xs, hlen with
  | [y0], _ =>
    have h0 : DataW.trod enc Try.prog W 0 (fun _ => true) true m 24 (List.take (Try.prog.cellsOf 24) (List.drop 0 [c0])) = some y0 := hf 0 _ rfl
    simp only [hc2, List.drop_zero, List.take_succ_cons, List.take_zero] at h0
    simp only [Prod.mk.injEq] at hd
    have hd1 := hd.1
    subst hd1
    have hw0 : ∀ x ∈ y0.1.weights Try.prog 24, x ≤ reachBytes := fun x hx => hw x (by
      simp only [DataW.weights, Try.underlying26]
      show x ∈ _ ++ _
      simp only [List.mem_append]
      exact .inl hx)
    obtain ⟨A, n, c, l, e0, r0, ok, _⟩ := open_sgz (α := T6) (ok := fun t => t.Reads W ∧ t.Small) Try.underlying24 Try.cellsT (by decide +kernel) tab_cells h0 hw0 (by decide)
    simp only [List.cons.injEq, and_true] at e0
    subst e0
    exact ⟨A, n, c, l, rfl, ⟨r0, fun t ht => (ok t ht).1⟩, fun t ht => (ok t ht).2⟩
/-- a table that came in -/
theorem open_table {H : Type} {enc : TypeId × Value → H} {W : World} {base : Nat} {v : Value} {d : DataW H} {ps : List MemPlace} (hval : Value.okWide Try.prog W .any base 39 v) (h : DataW.Trod enc Try.prog W 0 (fun _ => true) true 39 v d ps) (hw : ∀ x ∈ d.weights Try.prog 39, x ≤ reachBytes) :
    ∃ t : T6, v = t.agg ∧ t.Reads W ∧ t.Small := by
  obtain ⟨cs, rfl, hsz⟩ := okWide_struct Try.underlying39 hval
  obtain ⟨fuel, hf⟩ := h
  obtain ⟨t, e, h1, h2⟩ := tab_cells _ _ _ hf hw
  exact ⟨t, by rw [show cs = t.cells.toArray from Array.toList_inj.1 e]; rfl, h1, h2⟩
end Go.Proofs.Ytogfnjlhfbpneaa
