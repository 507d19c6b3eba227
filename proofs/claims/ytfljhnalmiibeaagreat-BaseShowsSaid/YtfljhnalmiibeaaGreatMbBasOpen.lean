/- Layer 13: lines and bases that came in. -/
import Derived.Test.YtfljhnalmiibeaaGreatMbBasAlM
import Derived.Test.YtfljhnalmiibeaaGreatMbCellOpen
import Derived.Test.YtfljhnalmiibeaaGreatMbSchQs
import Derived.Test.YtfljhnalmiibeaaGreatMbBasLawM
namespace Go.Proofs.YtfljhnalmiibeaaGreat
set_option maxRecDepth 100000
open Go.ChangeShapes Go.WideShapes Go.ChangeAt Go.RowKit
theorem rdr_of_g {α β : Type} {enc : α → List Value} {sz : Nat} {R : World → α → β → Prop} {w : World} {A : Option Addr} {n c : Nat} {L : List α} {ok : β → Prop} (h : RdG enc sz w A n c L) (hx : ∀ x ∈ L, ∃ y, R w x y ∧ ok y) :
    ∃ l, RdR enc sz R w A n c l ∧ ∀ y ∈ l, ok y := by
  have key : ∀ L : List α, (∀ x ∈ L, ∃ y, R w x y ∧ ok y) → ∃ l : List β, L.length = l.length ∧ (∀ (j : Nat) (x : α) (y : β), L[j]? = some x → l[j]? = some y → R w x y) ∧ ∀ y ∈ l, ok y := by
    intro L
    induction L with
    | nil => exact fun _ => ⟨[], rfl, fun j x y h => by simp at h, fun y h => by simp at h⟩
    | cons a L ih =>
      intro hx
      obtain ⟨l, h1, h2, h3⟩ := ih fun x h => hx x (List.mem_cons_of_mem _ h)
      obtain ⟨y, h4, h5⟩ := hx a (List.mem_cons_self ..)
      refine ⟨y :: l, by simp [h1], fun j x z hx hz => ?_, fun z hz => ?_⟩
      · rcases j with _ | j
        · simp at hx hz; subst hx hz; exact h4
        · simp at hx hz; exact h2 j x z hx hz
      · rcases List.mem_cons.1 hz with rfl | hz
        · exact h5
        · exact h3 z hz
  obtain ⟨l, h1, h2, h3⟩ := key L hx
  exact ⟨l, ⟨L, h, h1, h2⟩, h3⟩
theorem Tryz.cellsDs : Tryz.prog.cellsOf 35 = 1 := by kernel_rfl
theorem Tryz.cellsCl : Tryz.prog.cellsOf 34 = 1 := by kernel_rfl
theorem Tryz.cellsLine : Tryz.prog.cellsOf 37 = 3 := by kernel_rfl
theorem Tryz.cellsLs : Tryz.prog.cellsOf 55 = 1 := by kernel_rfl
theorem Tryz.cellsData : Tryz.prog.cellsOf 57 = 1 := by kernel_rfl
theorem Tryz.cellsDts : Tryz.prog.cellsOf 25 = 1 := by kernel_rfl
theorem Tryz.cellsBase : Tryz.prog.cellsOf 27 = 1 := by kernel_rfl
instance inhC5o : Inhabited C5 := ⟨⟨0, ⟨0, 0, ⟨#[]⟩⟩, none, 0, 0⟩⟩
theorem cell_cells13 {H : Type} {enc : TypeId × Value → H} {W : World} (n : Nat) (cs : List Value) (r) (h : DataW.trod enc Tryz.prog W 0 (fun _ => true) true n 72 cs = some r) : ∃ x : C5, cs = x.cells ∧ ∃ y, CellR W x y ∧ True := by
  obtain ⟨xs, m, _, _, hl, hlen, hf⟩ := DataW.trod_struct Tryz.underlying72 h
  rw [Tryz.cellsCell] at hl
  match xs, hlen with
  | [y0, y1, y2], _ =>
    match cs, hl with
    | [c0, c1, c2, c3, c4], _ =>
      have h0 : DataW.trod enc Tryz.prog W 0 (fun _ => true) true m 3 (List.take (Tryz.prog.cellsOf 3) (List.drop 0 [c0, c1, c2, c3, c4])) = some y0 := hf 0 _ rfl
      have h1 : DataW.trod enc Tryz.prog W 0 (fun _ => true) true m 68 (List.take (Tryz.prog.cellsOf 68) (List.drop 1 [c0, c1, c2, c3, c4])) = some y1 := hf 1 _ rfl
      have h2 : DataW.trod enc Tryz.prog W 0 (fun _ => true) true m 70 (List.take (Tryz.prog.cellsOf 70) (List.drop 4 [c0, c1, c2, c3, c4])) = some y2 := hf 2 _ rfl
      simp only [Tryz.cellsI, Tryz.cellsV, Tryz.cellsParts, List.drop_zero, List.drop_succ_cons, List.take_succ_cons, List.take_zero] at h0 h1 h2
      obtain ⟨k, e0, _, w0⟩ := DataW.trod_int Tryz.underlying3 h0
      obtain ⟨u, e1, w1⟩ := val_cells _ _ _ h1
      obtain ⟨A, n, c, l, e2, hrd, w2⟩ := open_sg_in (α := P11) Tryz.underlying70 Tryz.cellsPart part_cells h2 (by decide)
      simp only [V3.cells, List.cons.injEq, and_true] at e0 e1 e2
      obtain ⟨rfl, rfl, rfl⟩ := e1
      subst e0 e2
      exact ⟨⟨k, u, A, n, c⟩, rfl, ⟨k, u, l⟩, ⟨rfl, rfl, hrd⟩, trivial⟩
theorem line_cells {H : Type} {enc : TypeId × Value → H} {W : World} (n : Nat) (cs : List Value) (r) (h : DataW.trod enc Tryz.prog W 0 (fun _ => true) true n 37 cs = some r) : ∃ x : LnR, cs = x.cells ∧ ∃ y, LineR W x y ∧ True := by
  obtain ⟨xs, m, _, _, hl, hlen, hf⟩ := DataW.trod_struct Tryz.underlying37 h
  rw [Tryz.cellsLine] at hl
  match xs, hlen with
  | [y0, y1, y2], _ =>
    match cs, hl with
    | [c0, c1, c2], _ =>
      have h0 : DataW.trod enc Tryz.prog W 0 (fun _ => true) true m 3 (List.take (Tryz.prog.cellsOf 3) (List.drop 0 [c0, c1, c2])) = some y0 := hf 0 _ rfl
      have h1 : DataW.trod enc Tryz.prog W 0 (fun _ => true) true m 34 (List.take (Tryz.prog.cellsOf 34) (List.drop 1 [c0, c1, c2])) = some y1 := hf 1 _ rfl
      have h2 : DataW.trod enc Tryz.prog W 0 (fun _ => true) true m 35 (List.take (Tryz.prog.cellsOf 35) (List.drop 2 [c0, c1, c2])) = some y2 := hf 2 _ rfl
      simp only [Tryz.cellsI, Tryz.cellsCl, Tryz.cellsDs, List.drop_zero, List.drop_succ_cons, List.take_succ_cons, List.take_zero] at h0 h1 h2
      obtain ⟨k, e0, _, w0⟩ := DataW.trod_int Tryz.underlying3 h0
      obtain ⟨A, n, c, L, e1, hrd, w1⟩ := open_sg_in (α := C5) (ok := fun x => ∃ y, CellR W x y ∧ True) Tryz.underlying34 Tryz.cellsCell cell_cells13 h1 (by decide)
      obtain ⟨l, hl1, _⟩ := rdr_of_g hrd w1
      obtain ⟨B, q, d, D, e2, hrd2, w2⟩ := open_sg_in (α := D2) Tryz.underlying35 Tryz.cellsDot dot_cells h2 (by decide)
      simp only [List.cons.injEq, and_true] at e0 e1 e2
      subst e0 e1 e2
      exact ⟨⟨k, A, n, c, B, q, d⟩, rfl, ⟨k, l, D⟩, ⟨rfl, hl1, hrd2⟩, trivial⟩
theorem data_cells {H : Type} {enc : TypeId × Value → H} {W : World} (n : Nat) (cs : List Value) (r) (h : DataW.trod enc Tryz.prog W 0 (fun _ => true) true n 57 cs = some r) (hw : ∀ x ∈ r.1.weights Tryz.prog 57, x ≤ reachBytes) : ∃ x : SlR, cs = x.cells ∧ ∃ y, DataR W x y ∧ y.length ≤ 140737488355328 := by
  obtain ⟨xs, m, _, rfl, hl, hlen, hf⟩ := DataW.trod_struct Tryz.underlying57 h
  rw [Tryz.cellsData] at hl
  match xs, hlen with
  | [y0], _ =>
    match cs, hl with
    | [c0], _ =>
      have h0 : DataW.trod enc Tryz.prog W 0 (fun _ => true) true m 55 (List.take (Tryz.prog.cellsOf 55) (List.drop 0 [c0])) = some y0 := hf 0 _ rfl
      simp only [Tryz.cellsLs, List.drop_zero, List.take_succ_cons, List.take_zero] at h0
      have hw0 : ∀ x ∈ y0.1.weights Tryz.prog 55, x ≤ reachBytes := fun x hx => hw x (by
        simp only [DataW.weights, Tryz.underlying57]
        show x ∈ _ ++ _
        simp only [List.mem_append]
        exact .inl hx)
      obtain ⟨A, n, c, L, e0, r0, ok, hz⟩ := open_sgz (α := LnR) (ok := fun x => ∃ y, LineR W x y ∧ True) Tryz.underlying55 Tryz.cellsLine (by decide +kernel) (fun n cs r h _ => line_cells n cs r h) h0 hw0 (by decide)
      obtain ⟨l, hl1, _⟩ := rdr_of_g r0 ok
      simp only [List.cons.injEq, and_true] at e0
      subst e0
      have := hl1.len
      exact ⟨⟨A, n, c⟩, rfl, l, hl1, by omega⟩
/-- a base that came in -/
theorem open_base {H : Type} {enc : TypeId × Value → H} {W : World} {base : Nat} {v : Value} {d : DataW H} {ps : List MemPlace} (hval : Value.okWide Tryz.prog W .any base 27 v) (h : DataW.Trod enc Tryz.prog W 0 (fun _ => true) true 27 v d ps) (hw : ∀ x ∈ d.weights Tryz.prog 27, x ≤ reachBytes) :
    ∃ A n c l, v = .agg #[.slice A n c] ∧ RdB W A n c l ∧ ∀ y ∈ l, y.length ≤ 140737488355328 := by
  obtain ⟨cs, rfl, hsz⟩ := okWide_struct Tryz.underlying27 hval
  obtain ⟨fuel, hf⟩ := h
  obtain ⟨xs, m, _, hd, hl, hlen, hf⟩ := DataW.trod_struct Tryz.underlying27 hf
  rw [Tryz.cellsBase] at hsz
  obtain ⟨c0, rfl⟩ : ∃ c0, cs = #[c0] := by
    obtain ⟨l⟩ := cs
    match l, hsz with
    | [a], _ => exact ⟨a, rfl⟩
  match xs, hlen with
  | [y0], _ =>
    have h0 : DataW.trod enc Tryz.prog W 0 (fun _ => true) true m 25 (List.take (Tryz.prog.cellsOf 25) (List.drop 0 [c0])) = some y0 := hf 0 _ rfl
    simp only [Tryz.cellsDts, List.drop_zero, List.take_succ_cons, List.take_zero] at h0
    simp only [Prod.mk.injEq] at hd
    have hd1 := hd.1
    subst hd1
    have hw0 : ∀ x ∈ y0.1.weights Tryz.prog 25, x ≤ reachBytes := fun x hx => hw x (by
      simp only [DataW.weights, Tryz.underlying27]
      show x ∈ _ ++ _
      simp only [List.mem_append]
      exact .inl hx)
    obtain ⟨A, n, c, L, e0, r0, ok, _⟩ := open_sgz (α := SlR) (ok := fun x => ∃ y, DataR W x y ∧ y.length ≤ 140737488355328) Tryz.underlying25 Tryz.cellsData (by decide +kernel) data_cells h0 hw0 (by decide)
    obtain ⟨l, hl1, hl2⟩ := rdr_of_g r0 ok
    simp only [List.cons.injEq, and_true] at e0
    subst e0
    exact ⟨A, n, c, l, rfl, hl1, hl2⟩
/-- a line that came in -/
theorem open_line {H : Type} {enc : TypeId × Value → H} {W : World} {base : Nat} {v : Value} {d : DataW H} {ps : List MemPlace} (hval : Value.okWide Tryz.prog W .any base 37 v) (h : DataW.Trod enc Tryz.prog W 0 (fun _ => true) true 37 v d ps) :
    ∃ (x : LnR) (y : LQ), v = x.agg ∧ LineR W x y := by
  obtain ⟨cs, rfl, hsz⟩ := okWide_struct Tryz.underlying37 hval
  obtain ⟨fuel, hf⟩ := h
  obtain ⟨x, e, y, h1, _⟩ := line_cells _ _ _ hf
  exact ⟨x, y, by rw [show cs = x.cells.toArray from Array.toList_inj.1 e]; rfl, h1⟩
/-- two lines that came in -/
theorem open_line2 {H : Type} {enc : TypeId × Value → H} {W : World} {base : Nat} {v : Value} {d : DataW H} {ps : List MemPlace} (hval : Value.okWide Tryz.prog W .any base 51 v) (h : DataW.Trod enc Tryz.prog W 0 (fun _ => true) true 51 v d ps) :
    ∃ (x z : LnR) (y u : LQ), v = .agg #[.int .i64 x.key, .slice x.ca x.cn x.cc, .slice x.ba x.bn x.bc, .int .i64 z.key, .slice z.ca z.cn z.cc, .slice z.ba z.bn z.bc] ∧ LineR W x y ∧ LineR W z u := by
  obtain ⟨cs, rfl, hsz⟩ := okWide_arr Tryz.underlying51 hval
  obtain ⟨l⟩ := cs
  replace hsz : l.length = 6 := hsz.trans (by kernel_rfl)
  obtain ⟨fuel, hf⟩ := h
  obtain ⟨xs, m, _, _, _, hlen, hx⟩ := DataW.trod_array Tryz.underlying51 hf
  match xs, hlen, l, hsz with
  | [y0, y1], _, [c0, c1, c2, c3, c4, c5], _ =>
    have h0 := hx 0 (by omega)
    have h1 := hx 1 (by omega)
    rw [Tryz.cellsLine] at h0 h1
    have h0 : DataW.trod enc Tryz.prog W 0 (fun _ => true) true m 37 [c0, c1, c2] = some y0 := h0
    have h1 : DataW.trod enc Tryz.prog W 0 (fun _ => true) true m 37 [c3, c4, c5] = some y1 := h1
    obtain ⟨x, e0, y, hy, _⟩ := line_cells _ _ _ h0
    obtain ⟨z, e1, u, hu, _⟩ := line_cells _ _ _ h1
    simp only [LnR.cells, List.cons.injEq, and_true] at e0 e1
    obtain ⟨rfl, rfl, rfl⟩ := e0
    obtain ⟨rfl, rfl, rfl⟩ := e1
    exact ⟨x, z, y, u, rfl, hy, hu⟩
theorem open_arr3 {H : Type} {enc : TypeId × Value → H} {W : World} {base : Nat} {v : Value} {d : DataW H} {ps : List MemPlace} (hval : Value.okWide Tryz.prog W .any base 49 v) (h : DataW.Trod enc Tryz.prog W 0 (fun _ => true) true 49 v d ps) :
    ∃ x y z : Int, v = .agg #[.int .i64 x, .int .i64 y, .int .i64 z] := by
  obtain ⟨cs, rfl, hsz⟩ := okWide_arr Tryz.underlying49 hval
  obtain ⟨l⟩ := cs
  replace hsz : l.length = 3 := hsz.trans (by kernel_rfl)
  obtain ⟨fuel, hf⟩ := h
  obtain ⟨xs, m, _, _, _, hlen, hx⟩ := DataW.trod_array Tryz.underlying49 hf
  match xs, hlen, l, hsz with
  | [y0, y1, y2], _, [c0, c1, c2], _ =>
    have h0 := hx 0 (by omega)
    have h1 := hx 1 (by omega)
    have h2 := hx 2 (by omega)
    rw [Tryz.cellsI] at h0 h1 h2
    have h0 : DataW.trod enc Tryz.prog W 0 (fun _ => true) true m 3 [c0] = some y0 := h0
    have h1 : DataW.trod enc Tryz.prog W 0 (fun _ => true) true m 3 [c1] = some y1 := h1
    have h2 : DataW.trod enc Tryz.prog W 0 (fun _ => true) true m 3 [c2] = some y2 := h2
    obtain ⟨x, e0, _, _⟩ := DataW.trod_int Tryz.underlying3 h0
    obtain ⟨y, e1, _, _⟩ := DataW.trod_int Tryz.underlying3 h1
    obtain ⟨z, e2, _, _⟩ := DataW.trod_int Tryz.underlying3 h2
    simp only [List.cons.injEq, and_true] at e0 e1 e2
    subst e0 e1 e2
    exact ⟨x, y, z, rfl⟩
end Go.Proofs.YtfljhnalmiibeaaGreat

