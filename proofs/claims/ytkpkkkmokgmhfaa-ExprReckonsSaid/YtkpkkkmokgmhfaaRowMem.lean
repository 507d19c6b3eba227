/- Layer 3: slices whose elements take several cells each: rows of values, columns. -/
import Derived.Test.YtkpkkkmokgmhfaaRows
import Derived.Test.YtkpkkkmokgmhfaaMem
import Derived.Test.YtkpkkkmokgmhfaaStruct
import Derived.Laws.Rows
namespace Go.Proofs.Ytkpkkkmokgmhfaa
set_option maxRecDepth 100000
open Go.RowKit

theorem row_drew {w : World} {g : Nat} {o : Obj} (h : w.heap[g]? = some o) : w.drew.heap[g]? = some o := h

/-- a value of a row -/
structure V3 where
  k : Int
  n : Int
  s : ByteArray
/-- a column -/
structure C4 where
  nm : ByteArray
  k : Int
  t : Int
  z : Bool
def V3.cells (v : V3) : List Value := [.int .i64 v.k, .int .i64 v.n, .string v.s]
abbrev V3.agg (v : V3) : Value := .agg #[.int .i64 v.k, .int .i64 v.n, .string v.s]
def C4.cells (c : C4) : List Value := [.string c.nm, .int .i64 c.k, .int .i64 c.t, .bool c.z]
abbrev C4.agg (c : C4) : Value := .agg #[.string c.nm, .int .i64 c.k, .int .i64 c.t, .bool c.z]

/-- the slice at address A, of n elements of sz cells each, and of capacity c, reads as l -/
def RdG {α : Type} (enc : α → List Value) (sz : Nat) (w : World) (A : Option Addr) (n c : Nat) (l : List α) : Prop :=
  l.length = n ∧ n ≤ c ∧ c ≤ maxLen ∧
    (0 < n → ∃ b o, A = some ⟨b, o, none⟩ ∧ b < w.heap.size ∧ ∀ j (h : j < l.length) i v, (enc l[j])[i]? = some v → w.cell? ⟨b, o + j * sz + i, none⟩ = some v)

section
variable {α : Type} {enc : α → List Value} {sz : Nat} {w w' : World} {A : Option Addr} {n c : Nat} {l : List α}

theorem RdG.len (h : RdG enc sz w A n c l) : l.length = n := h.1
theorem RdG.cap (h : RdG enc sz w A n c l) : n ≤ c := h.2.1
theorem RdG.le (h : RdG enc sz w A n c l) : n ≤ 9223372036854775807 := by
  have h1 := h.2.1; have h2 := h.2.2.1; simp only [maxLen] at h2; omega
theorem RdG.at_ (h : RdG enc sz w A n c l) {k : Nat} (hk : k < n) : ∃ b o x, A = some ⟨b, o, none⟩ ∧ b < w.heap.size ∧ l[k]? = some x ∧ ∀ i v, (enc x)[i]? = some v → w.cell? ⟨b, o + k * sz + i, none⟩ = some v := by
  obtain ⟨hl, _, _, hx⟩ := h
  obtain ⟨b, o, rfl, hb, hc⟩ := hx (by omega)
  exact ⟨b, o, l[k]'(by omega), rfl, hb, List.getElem?_eq_getElem (by omega), hc k (by omega)⟩
theorem RdG.keep (h : RdG enc sz w A n c l) (hs : w.heap.size ≤ w'.heap.size) (hk : ∀ p : Addr, p.block < w.heap.size → w'.cell? p = w.cell? p) : RdG enc sz w' A n c l := by
  obtain ⟨hl, h1, h2, hx⟩ := h
  refine ⟨hl, h1, h2, fun h0 => ?_⟩
  obtain ⟨b, o, rfl, hb, hc⟩ := hx h0
  exact ⟨b, o, rfl, by omega, fun j hj i v hv => (hk ⟨b, o + j * sz + i, none⟩ hb).trans (hc j hj i v hv)⟩
theorem RdG.below (h : RdG enc sz w A n c l) (hb : Below w.heap.size w w') : RdG enc sz w' A n c l := h.keep hb.size fun _ hp => hb.cell hp
theorem RdG.below_le (h : RdG enc sz w A n c l) {B : Nat} (hB : w.heap.size ≤ B) (hb : Below B w w') : RdG enc sz w' A n c l := h.below (hb.mono hB)
theorem RdG.drewN (h : RdG enc sz w A n c l) (k : Nat) : RdG enc sz (w.drewN k) A n c l := h
theorem RdG.alloc (h : RdG enc sz w A n c l) (o : Obj) : RdG enc sz (w.alloc o) A n c l := h.keep (by simp) fun p hp => World.cell?_alloc_lt w o p hp
theorem RdG.nil_ (w : World) : RdG enc sz w none 0 0 [] := ⟨rfl, Nat.le_refl _, by simp [maxLen], fun h => absurd h (by omega)⟩
theorem RdG.empty_ (w : World) (A : Option Addr) {c : Nat} (hc : c ≤ maxLen) : RdG enc sz w A 0 c [] := ⟨rfl, Nat.zero_le _, hc, fun h => absurd h (by omega)⟩
theorem RdG.hsize (h : RdG enc sz w A n c l) (h0 : 0 < n) : ∃ b o, A = some ⟨b, o, none⟩ ∧ b < w.heap.size := by
  obtain ⟨b, o, rfl, hb, _⟩ := h.2.2.2 h0; exact ⟨b, o, rfl, hb⟩
theorem RdG.upto (h : RdG enc sz w A n c l) {k m : Nat} (hk : k ≤ n) (hm : k ≤ m) (hmc : m ≤ c) : RdG enc sz w A k m (l.take k) := by
  obtain ⟨hl, h1, h2, hx⟩ := h
  refine ⟨by rw [List.length_take]; omega, hm, by simp only [maxLen] at *; omega, fun h0 => ?_⟩
  obtain ⟨b, o, rfl, hb, hc⟩ := hx (by omega)
  refine ⟨b, o, rfl, hb, fun j hj i v hv => ?_⟩
  rw [List.length_take] at hj
  rw [List.getElem_take] at hv
  exact hc j (by omega) i v hv
end

theorem flat_at {α : Type} {enc : α → List Value} {sz : Nat} (hz : ∀ x, (enc x).length = sz) : ∀ (l : List α) (j : Nat) (h : j < l.length) (i : Nat) (v : Value), (enc l[j])[i]? = some v → (l.flatMap enc)[j * sz + i]? = some v
  | [], j, h, _, _, _ => absurd h (by simp)
  | x :: l, 0, _, i, v, hv => by
    simp only [List.getElem_cons_zero] at hv
    have hi : i < (enc x).length := (List.getElem?_eq_some_iff.1 hv).1
    rw [List.flatMap_cons, Nat.zero_mul, Nat.zero_add, List.getElem?_append_left hi, hv]
  | x :: l, j + 1, h, i, v, hv => by
    simp only [List.getElem_cons_succ] at hv
    rw [List.flatMap_cons, List.getElem?_append_right (by rw [hz, Nat.succ_mul]; omega), hz, show (j + 1) * sz + i - sz = j * sz + i by rw [Nat.succ_mul]; omega]
    exact flat_at hz l j (by simpa using h) i v hv

theorem flat_len {α : Type} {enc : α → List Value} {sz : Nat} (hz : ∀ x, (enc x).length = sz) (l : List α) : (l.flatMap enc).length = l.length * sz := by
  induction l with
  | nil => simp
  | cons x l ih => rw [List.flatMap_cons, List.length_append, ih, hz, List.length_cons, Nat.succ_mul]; omega

/-- what the call owns reads so -/
theorem RdG.own_ {α : Type} {enc : α → List Value} {sz : Nat} {w : World} {base : Nat} {e : TypeId} {v : Value} {n : Nat} {l : List α} (hz : ∀ x, (enc x).length = sz) (h1 : 1 ≤ sz) (h : w.ownsRow base e sz v n (l.flatMap enc)) :
    ∃ A c, v = .slice A n c ∧ RdG enc sz w A n c l := by
  have hl : l.length = n := by
    have := h.1
    rw [flat_len hz] at this
    exact Nat.eq_of_mul_eq_mul_right (by omega) this
  rcases h.2 with ⟨rfl, rfl⟩ | ⟨g, cap, cur, rfl, _, hg, hnc, hcm, _, _⟩
  · exact ⟨none, 0, rfl, hl, Nat.le_refl _, by simp [maxLen], fun h => absurd h (by omega)⟩
  · refine ⟨_, _, rfl, hl, hnc, hcm, fun _ => ⟨g, 0, rfl, (Array.getElem?_eq_some_iff.1 hg).1, fun j hj i v hv => ?_⟩⟩
    have hf := flat_at hz l j hj i v hv
    have := h.cellAt (j * sz + i) (by have := (List.getElem?_eq_some_iff.1 hf).1; rw [flat_len hz, hl] at this; exact this)
    rw [Nat.zero_add, this, hf]

/-- a literal row in a new block -/
theorem rdg_new {α : Type} {enc : α → List Value} {sz : Nat} (hz : ∀ x, (enc x).length = sz) (w : World) (l : List α) (cs : Array Value) (e : TypeId) {n g : Nat} (hc : l.flatMap enc = cs.toList) (h : l.length = n) (hn : n ≤ 4294967296) (hg : w.heap.size = g) :
    RdG enc sz (w.alloc (.cells cs e)) (some ⟨g, 0, none⟩) n n l := by
  subst hg
  refine ⟨h, Nat.le_refl _, by simp only [maxLen]; omega, fun _ => ⟨w.heap.size, 0, rfl, by simp, fun j hj i v hv => ?_⟩⟩
  have hf := flat_at hz l j hj i v hv
  have := cell_of_row _ w.heap.size (0 + j * sz + i) _ e (0, 0) (heap_alloc_new w (.cells cs e))
  rw [this, Nat.zero_add, ← Array.getElem?_toList, ← hc, hf]

/-- a struct is loaded -/
theorem run_loadVar_at {P : Program} {w : World} {b o : Nat} {ty : TypeId} {d : TypeDesc} {cs : List Value}
    (hc : ∀ i v, cs[i]? = some v → w.cell? ⟨b, o + i, none⟩ = some v)
    (hu : P.underlying ty = some d) (hd : (match d with | .struct _ | .array _ _ => true | _ => false) = true) (hi : (P.info? ty).map (·.size) = some cs.length) :
    (loadVar ty ⟨b, o, none⟩).run P w = .ok (.agg cs.toArray) w := by
  have hl : (loadCells ⟨b, o, none⟩ cs.length).run P w = .ok cs.toArray w :=
    run_loadCells_list (P := P) w ⟨b, o, none⟩ cs (fun j v hv => by
      have hadd : (⟨b, o, none⟩ : Addr).add j = ⟨b, o + j, none⟩ := by unfold Addr.add; split <;> simp_all
      rw [hadd]; exact hc j v hv)
  cases hq : P.info? ty with
  | none => simp [hq] at hi
  | some i =>
    have hs : i.size = cs.length := by simpa [hq] using hi
    have hagg : (isAgg ty).run P w = .ok true w := by
      unfold isAgg
      rw [Sem.run_bind, run_underlying hu w]
      cases d <;> simp_all
    simp [loadVar, Sem.run_bind, hagg, sizeOf, typeInfo, hq, hs, hl]

theorem flat_get {α : Type} {enc : α → List Value} {sz : Nat} (hz : ∀ x, (enc x).length = sz) : ∀ (l : List α) (j : Nat) (u : Value), (l.flatMap enc)[j]? = some u → ∃ (q : Nat) (hq : q < l.length) (r : Nat), j = q * sz + r ∧ (enc l[q])[r]? = some u
  | [], j, u, h => by simp at h
  | x :: l, j, u, h => by
    rw [List.flatMap_cons] at h
    by_cases hj : j < sz
    · rw [List.getElem?_append_left (by rw [hz]; exact hj)] at h
      exact ⟨0, by simp, j, by simp, h⟩
    · rw [List.getElem?_append_right (by rw [hz]; omega), hz] at h
      obtain ⟨q, hq, r, h1, h2⟩ := flat_get hz l _ u h
      exact ⟨q + 1, by simpa using hq, r, by rw [Nat.succ_mul]; omega, by simpa using h2⟩

theorem rdg_cells {α : Type} {enc : α → List Value} {sz : Nat} (hz : ∀ x, (enc x).length = sz) {w : World} {b o n c : Nat} {l : List α} (h : RdG enc sz w (some ⟨b, o, none⟩) n c l) : ∀ j u, (l.flatMap enc)[j]? = some u → w.cell? ((⟨b, o, none⟩ : Addr).add j) = some u := by
  intro j u hj
  obtain ⟨q, hq, r, rfl, hr⟩ := flat_get hz l j u hj
  obtain ⟨hl, _, _, hx⟩ := h
  obtain ⟨b', o', e, _, hc⟩ := hx (by omega)
  injection e with e
  injection e with e1 e2
  subst e1 e2
  have h2 := hc q hq r u hr
  have h3 : (⟨b, o, none⟩ : Addr).add (q * sz + r) = ⟨b, o + q * sz + r, none⟩ := by unfold Addr.add; by_cases hz : q * sz + r = 0 <;> simp [hz, Nat.add_assoc] <;> omega
  rw [h3]
  exact h2

abbrev RdV (w : World) (A : Option Addr) (n c : Nat) (l : List V3) : Prop := RdG V3.cells 3 w A n c l
abbrev RdC (w : World) (A : Option Addr) (n c : Nat) (l : List C4) : Prop := RdG C4.cells 4 w A n c l
theorem v3len (v : V3) : v.cells.length = 3 := rfl
theorem c4len (c : C4) : c.cells.length = 4 := rfl

/-- an element, and its cells -/
theorem RdG.val {w : World} {A : Option Addr} {n c : Nat} {l : List V3} (h : RdV w A n c l) {k : Nat} (hk : k < n) :
    ∃ b o x, A = some ⟨b, o, none⟩ ∧ b < w.heap.size ∧ l[k]? = some x ∧ ∀ w', Below w.heap.size w w' → w'.cell? ⟨b, o + k * 3, none⟩ = some (.int .i64 x.k) ∧ w'.cell? ⟨b, o + k * 3 + 1, none⟩ = some (.int .i64 x.n) ∧ w'.cell? ⟨b, o + k * 3 + 2, none⟩ = some (.string x.s) := by
  obtain ⟨b, o, x, rfl, hb, hx, hc⟩ := h.at_ hk
  exact ⟨b, o, x, rfl, hb, hx, fun w' hw => ⟨(hw.cell hb).trans (hc 0 _ rfl), (hw.cell hb).trans (hc 1 _ rfl), (hw.cell hb).trans (hc 2 _ rfl)⟩⟩
theorem RdG.col {w : World} {A : Option Addr} {n c : Nat} {l : List C4} (h : RdC w A n c l) {k : Nat} (hk : k < n) :
    ∃ b o x, A = some ⟨b, o, none⟩ ∧ b < w.heap.size ∧ l[k]? = some x ∧ ∀ w', Below w.heap.size w w' → w'.cell? ⟨b, o + k * 4, none⟩ = some (.string x.nm) ∧ w'.cell? ⟨b, o + k * 4 + 1, none⟩ = some (.int .i64 x.k) ∧ w'.cell? ⟨b, o + k * 4 + 2, none⟩ = some (.int .i64 x.t) ∧ w'.cell? ⟨b, o + k * 4 + 3, none⟩ = some (.bool x.z) := by
  obtain ⟨b, o, x, rfl, hb, hx, hc⟩ := h.at_ hk
  exact ⟨b, o, x, rfl, hb, hx, fun w' hw => ⟨(hw.cell hb).trans (hc 0 _ rfl), (hw.cell hb).trans (hc 1 _ rfl), (hw.cell hb).trans (hc 2 _ rfl), (hw.cell hb).trans (hc 3 _ rfl)⟩⟩
end Go.Proofs.Ytkpkkkmokgmhfaa
