/- Several texts laid together: Struct, RowMem, RowOpen. -/
import Derived.Test.YtfljhnalmiibeaaGreatMbMem
import Derived.Laws.IdiomRangeMap
import Derived.Test.YtfljhnalmiibeaaGreatRows
import Derived.Laws.Rows
import Derived.Deep.Strs
import Derived.Lib.SmallJoins
namespace Go.Proofs.YtfljhnalmiibeaaGreat
set_option maxRecDepth 100000
open Go.RowKit
theorem cell_row {w : World} {g : Nat} {cs : Array Value} {t : TypeId} {fr : Nat × Nat} (h : w.heap[g]? = some (.cells cs t fr)) (j : Nat) : w.cell? ⟨g, j, none⟩ = cs[j]? := by
  simp only [World.cell?, h]
  rfl
theorem frozen_row {w : World} {g : Nat} {cs : Array Value} {t : TypeId} (h : w.heap[g]? = some (.cells cs t (0, 0))) (j : Nat) : w.frozen? ⟨g, j, none⟩ = false := by
  simp [World.frozen?, h]
theorem set_row {w : World} {g : Nat} {cs : Array Value} {t : TypeId} {fr : Nat × Nat} (h : w.heap[g]? = some (.cells cs t fr)) (j : Nat) (x : Value) : (w.setCell ⟨g, j, none⟩ x).heap[g]? = some (.cells (cs.setIfInBounds j x) t fr) := by
  unfold World.setCell
  simp only []
  rw [Array.getElem?_modify, if_pos rfl, h]
  rfl
theorem set3 {w : World} {g : Nat} {a b c x y z : Value} {t : TypeId} {fr : Nat × Nat} (h : w.heap[g]? = some (.cells #[a, b, c] t fr)) :
    (((w.setCell ⟨g, 0, none⟩ x).setCell ⟨g, 1, none⟩ y).setCell ⟨g, 2, none⟩ z).heap[g]? = some (.cells #[x, y, z] t fr) := by
  have h1 := set_row h 0 x
  have h2 := set_row h1 1 y
  have h3 := set_row h2 2 z
  rw [h3]
  rfl
theorem below_set3 {w0 w : World} {B g : Nat} {x y z : Value} (h : Below B w0 w) (hg : B ≤ g) : Below B w0 (((w.setCell ⟨g, 0, none⟩ x).setCell ⟨g, 1, none⟩ y).setCell ⟨g, 2, none⟩ z) :=
  ((h.setCell hg x).setCell hg y).setCell hg z
theorem row_below {w w' : World} {g : Nat} {o : Obj} (h : w.heap[g]? = some o) (b : Below w.heap.size w w') : w'.heap[g]? = some o := by
  rw [b.block g (Array.getElem?_eq_some_iff.1 h).1, h]
theorem results_row_tmp {P : Program} {fn : Func} {p u : Tmp} {ty : TypeId} (h : fn.results = #[.cell p ty, .tmp u]) (tmps : Array Value) (w : World) (g : Nat) (t : TypeId) (cs : Array Value) (fr : Nat × Nat) (d : TypeDesc)
    (hp : tmps.getD p undef = .pointer (some ⟨g, 0, none⟩)) (hg : w.heap[g]? = some (.cells cs t fr))
    (hu : P.underlying ty = some d) (hd : (match d with | .struct _ | .array _ _ => true | _ => false) = true) (hi : (P.info? ty).map (·.size) = some cs.size) {x : Value} (hx : tmps.getD u undef = x) :
    (results fn tmps).run P w = .ok (.tuple #[.agg cs, x]) w := by
  subst hx
  have hp' : tmps[p]?.getD undef = .pointer (some ⟨g, 0, none⟩) := by simpa using hp
  simp [results, h, hp', asAddr, run_loadVar_row w g t ty cs fr d hg hu hd hi, Result.andThen]
theorem results_row_tmp2 {P : Program} {fn : Func} {p u v : Tmp} {ty : TypeId} (h : fn.results = #[.cell p ty, .tmp u, .tmp v]) (tmps : Array Value) (w : World) (g : Nat) (t : TypeId) (cs : Array Value) (fr : Nat × Nat) (d : TypeDesc)
    (hp : tmps.getD p undef = .pointer (some ⟨g, 0, none⟩)) (hg : w.heap[g]? = some (.cells cs t fr))
    (hu : P.underlying ty = some d) (hd : (match d with | .struct _ | .array _ _ => true | _ => false) = true) (hi : (P.info? ty).map (·.size) = some cs.size) {x y : Value} (hx : tmps.getD u undef = x) (hy : tmps.getD v undef = y) :
    (results fn tmps).run P w = .ok (.tuple #[.agg cs, x, y]) w := by
  subst hx hy
  have hp' : tmps[p]?.getD undef = .pointer (some ⟨g, 0, none⟩) := by simpa using hp
  simp [results, h, hp', asAddr, run_loadVar_row w g t ty cs fr d hg hu hd hi, Result.andThen]
end Go.Proofs.YtfljhnalmiibeaaGreat

namespace Go.Proofs.YtfljhnalmiibeaaGreat
set_option maxRecDepth 100000
open Go.RowKit
theorem row_drew {w : World} {g : Nat} {o : Obj} (h : w.heap[g]? = some o) : w.drew.heap[g]? = some o := h
/-- a value of a row -/
structure V3 where
  k : Int
  n : Int
  s : ByteArray
/-- a column -/
structure C4 where
  nm : ByteArray
  k : Int
  t : Int
  z : Bool
def V3.cells (v : V3) : List Value := [.int .i64 v.k, .int .i64 v.n, .string v.s]
abbrev V3.agg (v : V3) : Value := .agg #[.int .i64 v.k, .int .i64 v.n, .string v.s]
def C4.cells (c : C4) : List Value := [.string c.nm, .int .i64 c.k, .int .i64 c.t, .bool c.z]
abbrev C4.agg (c : C4) : Value := .agg #[.string c.nm, .int .i64 c.k, .int .i64 c.t, .bool c.z]
/-- the slice at address A, of n elements of sz cells each, and of capacity c, reads as l -/
def RdG {α : Type} (enc : α → List Value) (sz : Nat) (w : World) (A : Option Addr) (n c : Nat) (l : List α) : Prop :=
  l.length = n ∧ n ≤ c ∧ c ≤ maxLen ∧
    (0 < n → ∃ b o, A = some ⟨b, o, none⟩ ∧ b < w.heap.size ∧ ∀ j (h : j < l.length) i v, (enc l[j])[i]? = some v → w.cell? ⟨b, o + j * sz + i, none⟩ = some v)
section
variable {α : Type} {enc : α → List Value} {sz : Nat} {w w' : World} {A : Option Addr} {n c : Nat} {l : List α}
theorem RdG.len (h : RdG enc sz w A n c l) : l.length = n := h.1
theorem RdG.cap (h : RdG enc sz w A n c l) : n ≤ c := h.2.1
theorem RdG.le (h : RdG enc sz w A n c l) : n ≤ 9223372036854775807 := by
  have h1 := h.2.1; have h2 := h.2.2.1; simp only [maxLen] at h2; omega
theorem RdG.at_ (h : RdG enc sz w A n c l) {k : Nat} (hk : k < n) : ∃ b o x, A = some ⟨b, o, none⟩ ∧ b < w.heap.size ∧ l[k]? = some x ∧ ∀ i v, (enc x)[i]? = some v → w.cell? ⟨b, o + k * sz + i, none⟩ = some v := by
  obtain ⟨hl, _, _, hx⟩ := h
  obtain ⟨b, o, rfl, hb, hc⟩ := hx (by omega)
  exact ⟨b, o, l[k]'(by omega), rfl, hb, List.getElem?_eq_getElem (by omega), hc k (by omega)⟩
theorem RdG.keep (h : RdG enc sz w A n c l) (hs : w.heap.size ≤ w'.heap.size) (hk : ∀ p : Addr, p.block < w.heap.size → w'.cell? p = w.cell? p) : RdG enc sz w' A n c l := by
  obtain ⟨hl, h1, h2, hx⟩ := h
  refine ⟨hl, h1, h2, fun h0 => ?_⟩
  obtain ⟨b, o, rfl, hb, hc⟩ := hx h0
  exact ⟨b, o, rfl, by omega, fun j hj i v hv => (hk ⟨b, o + j * sz + i, none⟩ hb).trans (hc j hj i v hv)⟩
theorem RdG.below (h : RdG enc sz w A n c l) (hb : Below w.heap.size w w') : RdG enc sz w' A n c l := h.keep hb.size fun _ hp => hb.cell hp
theorem RdG.below_le (h : RdG enc sz w A n c l) {B : Nat} (hB : w.heap.size ≤ B) (hb : Below B w w') : RdG enc sz w' A n c l := h.below (hb.mono hB)
theorem RdG.drewN (h : RdG enc sz w A n c l) (k : Nat) : RdG enc sz (w.drewN k) A n c l := h
theorem RdG.alloc (h : RdG enc sz w A n c l) (o : Obj) : RdG enc sz (w.alloc o) A n c l := h.keep (by simp) fun p hp => World.cell?_alloc_lt w o p hp
theorem RdG.nil_ (w : World) : RdG enc sz w none 0 0 [] := ⟨rfl, Nat.le_refl _, by simp [maxLen], fun h => absurd h (by omega)⟩
theorem RdG.empty_ (w : World) (A : Option Addr) {c : Nat} (hc : c ≤ maxLen) : RdG enc sz w A 0 c [] := ⟨rfl, Nat.zero_le _, hc, fun h => absurd h (by omega)⟩
theorem RdG.hsize (h : RdG enc sz w A n c l) (h0 : 0 < n) : ∃ b o, A = some ⟨b, o, none⟩ ∧ b < w.heap.size := by
  obtain ⟨b, o, rfl, hb, _⟩ := h.2.2.2 h0; exact ⟨b, o, rfl, hb⟩
theorem RdG.upto (h : RdG enc sz w A n c l) {k m : Nat} (hk : k ≤ n) (hm : k ≤ m) (hmc : m ≤ c) : RdG enc sz w A k m (l.take k) := by
  obtain ⟨hl, h1, h2, hx⟩ := h
  refine ⟨by rw [List.length_take]; omega, hm, by simp only [maxLen] at *; omega, fun h0 => ?_⟩
  obtain ⟨b, o, rfl, hb, hc⟩ := hx (by omega)
  refine ⟨b, o, rfl, hb, fun j hj i v hv => ?_⟩
  rw [List.length_take] at hj
  rw [List.getElem_take] at hv
  exact hc j (by omega) i v hv
end
theorem flat_at {α : Type} {enc : α → List Value} {sz : Nat} (hz : ∀ x, (enc x).length = sz) : ∀ (l : List α) (j : Nat) (h : j < l.length) (i : Nat) (v : Value), (enc l[j])[i]? = some v → (l.flatMap enc)[j * sz + i]? = some v
  | [], j, h, _, _, _ => absurd h (by simp)
  | x :: l, 0, _, i, v, hv => by
    simp only [List.getElem_cons_zero] at hv
    have hi : i < (enc x).length := (List.getElem?_eq_some_iff.1 hv).1
    rw [List.flatMap_cons, Nat.zero_mul, Nat.zero_add, List.getElem?_append_left hi, hv]
  | x :: l, j + 1, h, i, v, hv => by
    simp only [List.getElem_cons_succ] at hv
    rw [List.flatMap_cons, List.getElem?_append_right (by rw [hz, Nat.succ_mul]; omega), hz, show (j + 1) * sz + i - sz = j * sz + i by rw [Nat.succ_mul]; omega]
    exact flat_at hz l j (by simpa using h) i v hv
theorem flat_len {α : Type} {enc : α → List Value} {sz : Nat} (hz : ∀ x, (enc x).length = sz) (l : List α) : (l.flatMap enc).length = l.length * sz := by
  induction l with
  | nil => simp
  | cons x l ih => rw [List.flatMap_cons, List.length_append, ih, hz, List.length_cons, Nat.succ_mul]; omega
/-- what the call owns reads so -/
theorem RdG.own_ {α : Type} {enc : α → List Value} {sz : Nat} {w : World} {base : Nat} {e : TypeId} {v : Value} {n : Nat} {l : List α} (hz : ∀ x, (enc x).length = sz) (h1 : 1 ≤ sz) (h : w.ownsRow base e sz v n (l.flatMap enc)) :
    ∃ A c, v = .slice A n c ∧ RdG enc sz w A n c l := by
  have hl : l.length = n := by
    have := h.1
    rw [flat_len hz] at this
    exact Nat.eq_of_mul_eq_mul_right (by omega) this
  rcases h.2 with ⟨rfl, rfl⟩ | ⟨g, cap, cur, rfl, _, hg, hnc, hcm, _, _⟩
  · exact ⟨none, 0, rfl, hl, Nat.le_refl _, by simp [maxLen], fun h => absurd h (by omega)⟩
  · refine ⟨_, _, rfl, hl, hnc, hcm, fun _ => ⟨g, 0, rfl, (Array.getElem?_eq_some_iff.1 hg).1, fun j hj i v hv => ?_⟩⟩
    have hf := flat_at hz l j hj i v hv
    have := h.cellAt (j * sz + i) (by have := (List.getElem?_eq_some_iff.1 hf).1; rw [flat_len hz, hl] at this; exact this)
    rw [Nat.zero_add, this, hf]
/-- a literal row in a new block -/
theorem rdg_new {α : Type} {enc : α → List Value} {sz : Nat} (hz : ∀ x, (enc x).length = sz) (w : World) (l : List α) (cs : Array Value) (e : TypeId) {n g : Nat} (hc : l.flatMap enc = cs.toList) (h : l.length = n) (hn : n ≤ 4294967296) (hg : w.heap.size = g) :
    RdG enc sz (w.alloc (.cells cs e)) (some ⟨g, 0, none⟩) n n l := by
  subst hg
  refine ⟨h, Nat.le_refl _, by simp only [maxLen]; omega, fun _ => ⟨w.heap.size, 0, rfl, by simp, fun j hj i v hv => ?_⟩⟩
  have hf := flat_at hz l j hj i v hv
  have := cell_of_row _ w.heap.size (0 + j * sz + i) _ e (0, 0) (heap_alloc_new w (.cells cs e))
  rw [this, Nat.zero_add, ← Array.getElem?_toList, ← hc, hf]
/-- a struct is loaded -/
theorem run_loadVar_at {P : Program} {w : World} {b o : Nat} {ty : TypeId} {d : TypeDesc} {cs : List Value}
    (hc : ∀ i v, cs[i]? = some v → w.cell? ⟨b, o + i, none⟩ = some v)
    (hu : P.underlying ty = some d) (hd : (match d with | .struct _ | .array _ _ => true | _ => false) = true) (hi : (P.info? ty).map (·.size) = some cs.length) :
    (loadVar ty ⟨b, o, none⟩).run P w = .ok (.agg cs.toArray) w := by
  have hl : (loadCells ⟨b, o, none⟩ cs.length).run P w = .ok cs.toArray w :=
    run_loadCells_list (P := P) w ⟨b, o, none⟩ cs (fun j v hv => by
      have hadd : (⟨b, o, none⟩ : Addr).add j = ⟨b, o + j, none⟩ := by unfold Addr.add; split <;> simp_all
      rw [hadd]; exact hc j v hv)
  cases hq : P.info? ty with
  | none => simp [hq] at hi
  | some i =>
    have hs : i.size = cs.length := by simpa [hq] using hi
    have hagg : (isAgg ty).run P w = .ok true w := by
      unfold isAgg
      rw [Sem.run_bind, run_underlying hu w]
      cases d <;> simp_all
    simp [loadVar, Sem.run_bind, hagg, sizeOf, typeInfo, hq, hs, hl]
theorem flat_get {α : Type} {enc : α → List Value} {sz : Nat} (hz : ∀ x, (enc x).length = sz) : ∀ (l : List α) (j : Nat) (u : Value), (l.flatMap enc)[j]? = some u → ∃ (q : Nat) (hq : q < l.length) (r : Nat), j = q * sz + r ∧ (enc l[q])[r]? = some u
  | [], j, u, h => by simp at h
  | x :: l, j, u, h => by
    rw [List.flatMap_cons] at h
    by_cases hj : j < sz
    · rw [List.getElem?_append_left (by rw [hz]; exact hj)] at h
      exact ⟨0, by simp, j, by simp, h⟩
    · rw [List.getElem?_append_right (by rw [hz]; omega), hz] at h
      obtain ⟨q, hq, r, h1, h2⟩ := flat_get hz l _ u h
      exact ⟨q + 1, by simpa using hq, r, by rw [Nat.succ_mul]; omega, by simpa using h2⟩
theorem rdg_cells {α : Type} {enc : α → List Value} {sz : Nat} (hz : ∀ x, (enc x).length = sz) {w : World} {b o n c : Nat} {l : List α} (h : RdG enc sz w (some ⟨b, o, none⟩) n c l) : ∀ j u, (l.flatMap enc)[j]? = some u → w.cell? ((⟨b, o, none⟩ : Addr).add j) = some u := by
  intro j u hj
  obtain ⟨q, hq, r, rfl, hr⟩ := flat_get hz l j u hj
  obtain ⟨hl, _, _, hx⟩ := h
  obtain ⟨b', o', e, _, hc⟩ := hx (by omega)
  injection e with e
  injection e with e1 e2
  subst e1 e2
  have h2 := hc q hq r u hr
  have h3 : (⟨b, o, none⟩ : Addr).add (q * sz + r) = ⟨b, o + q * sz + r, none⟩ := by unfold Addr.add; by_cases hz : q * sz + r = 0 <;> simp [hz, Nat.add_assoc] <;> omega
  rw [h3]
  exact h2
abbrev RdV (w : World) (A : Option Addr) (n c : Nat) (l : List V3) : Prop := RdG V3.cells 3 w A n c l
abbrev RdC (w : World) (A : Option Addr) (n c : Nat) (l : List C4) : Prop := RdG C4.cells 4 w A n c l
theorem v3len (v : V3) : v.cells.length = 3 := rfl
theorem c4len (c : C4) : c.cells.length = 4 := rfl
/-- an element, and its cells -/
theorem RdG.val {w : World} {A : Option Addr} {n c : Nat} {l : List V3} (h : RdV w A n c l) {k : Nat} (hk : k < n) :
    ∃ b o x, A = some ⟨b, o, none⟩ ∧ b < w.heap.size ∧ l[k]? = some x ∧ ∀ w', Below w.heap.size w w' → w'.cell? ⟨b, o + k * 3, none⟩ = some (.int .i64 x.k) ∧ w'.cell? ⟨b, o + k * 3 + 1, none⟩ = some (.int .i64 x.n) ∧ w'.cell? ⟨b, o + k * 3 + 2, none⟩ = some (.string x.s) := by
  obtain ⟨b, o, x, rfl, hb, hx, hc⟩ := h.at_ hk
  exact ⟨b, o, x, rfl, hb, hx, fun w' hw => ⟨(hw.cell hb).trans (hc 0 _ rfl), (hw.cell hb).trans (hc 1 _ rfl), (hw.cell hb).trans (hc 2 _ rfl)⟩⟩
theorem RdG.col {w : World} {A : Option Addr} {n c : Nat} {l : List C4} (h : RdC w A n c l) {k : Nat} (hk : k < n) :
    ∃ b o x, A = some ⟨b, o, none⟩ ∧ b < w.heap.size ∧ l[k]? = some x ∧ ∀ w', Below w.heap.size w w' → w'.cell? ⟨b, o + k * 4, none⟩ = some (.string x.nm) ∧ w'.cell? ⟨b, o + k * 4 + 1, none⟩ = some (.int .i64 x.k) ∧ w'.cell? ⟨b, o + k * 4 + 2, none⟩ = some (.int .i64 x.t) ∧ w'.cell? ⟨b, o + k * 4 + 3, none⟩ = some (.bool x.z) := by
  obtain ⟨b, o, x, rfl, hb, hx, hc⟩ := h.at_ hk
  exact ⟨b, o, x, rfl, hb, hx, fun w' hw => ⟨(hw.cell hb).trans (hc 0 _ rfl), (hw.cell hb).trans (hc 1 _ rfl), (hw.cell hb).trans (hc 2 _ rfl), (hw.cell hb).trans (hc 3 _ rfl)⟩⟩
end Go.Proofs.YtfljhnalmiibeaaGreat

namespace Go.Proofs.YtfljhnalmiibeaaGreat
set_option maxRecDepth 100000
open Go.ChangeShapes Go.WideShapes Go.ChangeAt Go.RowKit
theorem Tryz.cellsI : Tryz.prog.cellsOf 3 = 1 := by kernel_rfl
theorem Tryz.cellsS : Tryz.prog.cellsOf 9 = 1 := by kernel_rfl
theorem Tryz.cellsB : Tryz.prog.cellsOf 4 = 1 := by kernel_rfl
theorem Tryz.cellsV : Tryz.prog.cellsOf 68 = 3 := by kernel_rfl
theorem Tryz.cellsC : Tryz.prog.cellsOf 103 = 4 := by kernel_rfl
def V3.wf (x : V3) : Prop := (-9223372036854775808 ≤ x.k ∧ x.k ≤ 9223372036854775807) ∧ (-9223372036854775808 ≤ x.n ∧ x.n ≤ 9223372036854775807) ∧ x.s.size ≤ maxLen
instance : Inhabited V3 := ⟨⟨0, 0, ⟨#[]⟩⟩⟩
instance : Inhabited C4 := ⟨⟨⟨#[]⟩, 0, 0, false⟩⟩
theorem val_cells {H : Type} {enc : TypeId × Value → H} {W : World} (n : Nat) (cs : List Value) (r) (h : DataW.trod enc Tryz.prog W 0 (fun _ => true) true n 68 cs = some r) : ∃ x : V3, cs = x.cells ∧ x.wf := by
  obtain ⟨y0, y1, y2, m, _, hl, h0, h1, h2⟩ := Go.Deep.trod_struct3 Tryz.underlying68 h
  rw [Tryz.cellsV] at hl
  match cs, hl with
  | [a, b, c], _ =>
    simp only [Tryz.cellsI, Tryz.cellsS] at h0 h1 h2
    obtain ⟨k, e0, _, w0⟩ := DataW.trod_int Tryz.underlying3 h0
    obtain ⟨n', e1, _, w1⟩ := DataW.trod_int Tryz.underlying3 h1
    obtain ⟨s, e2, _, w2⟩ := DataW.trod_string Tryz.underlying9 h2
    simp at e0 e1 e2
    subst e0 e1 e2
    exact ⟨⟨k, n', s⟩, rfl, wf_i64 w0, wf_i64 w1, w2⟩
theorem col_cells {H : Type} {enc : TypeId × Value → H} {W : World} (n : Nat) (cs : List Value) (r) (h : DataW.trod enc Tryz.prog W 0 (fun _ => true) true n 103 cs = some r) : ∃ x : C4, cs = x.cells ∧ True := by
  obtain ⟨xs, m, _, _, hl, hlen, hf⟩ := DataW.trod_struct Tryz.underlying103 h
  rw [Tryz.cellsC] at hl
  match xs, hlen with
  | [y0, y1, y2, y3], _ =>
    match cs, hl with
    | [a, b, c, d], _ =>
      have h0 : DataW.trod enc Tryz.prog W 0 (fun _ => true) true m 9 (List.take (Tryz.prog.cellsOf 9) (List.drop 0 [a, b, c, d])) = some y0 := hf 0 _ rfl
      have h1 : DataW.trod enc Tryz.prog W 0 (fun _ => true) true m 3 (List.take (Tryz.prog.cellsOf 3) (List.drop 1 [a, b, c, d])) = some y1 := hf 1 _ rfl
      have h2 : DataW.trod enc Tryz.prog W 0 (fun _ => true) true m 3 (List.take (Tryz.prog.cellsOf 3) (List.drop 2 [a, b, c, d])) = some y2 := hf 2 _ rfl
      have h3 : DataW.trod enc Tryz.prog W 0 (fun _ => true) true m 4 (List.take (Tryz.prog.cellsOf 4) (List.drop 3 [a, b, c, d])) = some y3 := hf 3 _ rfl
      simp only [Tryz.cellsI, Tryz.cellsS, Tryz.cellsB] at h0 h1 h2 h3
      obtain ⟨s, e0, _, w0⟩ := DataW.trod_string Tryz.underlying9 h0
      obtain ⟨k, e1, _, w1⟩ := DataW.trod_int Tryz.underlying3 h1
      obtain ⟨t, e2, _, w2⟩ := DataW.trod_int Tryz.underlying3 h2
      obtain ⟨z, e3, _⟩ := DataW.trod_bool Tryz.underlying4 h3
      simp at e0 e1 e2 e3
      subst e0 e1 e2 e3
      exact ⟨⟨s, k, t, z⟩, rfl, trivial⟩
end Go.Proofs.YtfljhnalmiibeaaGreat

