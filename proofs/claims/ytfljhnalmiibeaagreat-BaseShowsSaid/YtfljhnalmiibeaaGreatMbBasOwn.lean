/- Layer 13: a line in memory of its own. -/
import Derived.Test.YtfljhnalmiibeaaGreatMbBasClone
import Derived.Deep.RegionHeld3
import Derived.Deep.CutBlock
namespace Go.Proofs.YtfljhnalmiibeaaGreat
set_option maxRecDepth 100000
open Go.RowKit
theorem flat_set {α : Type} {enc : α → List Value} {sz : Nat} (hz : ∀ x, (enc x).length = sz) : ∀ (L : List α) (k i : Nat) (v : Value) (x x' : α), L[k]? = some x → enc x' = (enc x).set i v → i < sz → (L.flatMap enc).set (k * sz + i) v = (L.set k x').flatMap enc
  | [], k, i, v, x, x', h, _, _ => by simp at h
  | y :: L, 0, i, v, x, x', h, he, hi => by
    simp only [List.getElem?_cons_zero, Option.some.injEq] at h
    subst h
    rw [List.flatMap_cons, List.set_cons_zero, List.flatMap_cons, he, Nat.zero_mul, Nat.zero_add, List.set_append_left _ _ (by rw [hz]; exact hi)]
  | y :: L, k + 1, i, v, x, x', h, he, hi => by
    rw [List.flatMap_cons, List.set_cons_succ, List.flatMap_cons, List.set_append_right _ _ (by rw [hz, Nat.succ_mul]; omega), hz, show (k + 1) * sz + i - sz = k * sz + i by rw [Nat.succ_mul]; omega,
      flat_set hz L k i v x x' (by simpa using h) he hi]
theorem own_set13 {w : World} {base g n cap sz : Nat} {e : TypeId} {xs : List Value} (h : w.ownsRow base e sz (.slice (some ⟨g, 0, none⟩) n cap) n xs) (j : Nat) (u : Value) : (w.setCell ⟨g, j, none⟩ u).ownsRow base e sz (.slice (some ⟨g, 0, none⟩) n cap) n (xs.set j u) := by
  refine ⟨by rw [List.length_set]; exact h.1, ?_⟩
  rcases h.2 with ⟨hv, _⟩ | ⟨g', cap', cur, hv, hg, hh, h1, h2, h3, h4⟩
  · cases hv
  · injection hv with e1 e2 e3
    injection e1 with e1
    injection e1 with e1
    subst e1 e3
    refine .inr ⟨g, cap, cur.setIfInBounds j u, rfl, hg, set_row hh j u, h1, h2, by simpa using h3, ?_⟩
    rw [Array.toList_setIfInBounds, List.take_set, h4]
theorem own_ne {w : World} {base : Nat} {e : TypeId} {size : Nat} {v : Value} {n : Nat} {xs : List Value} (h : w.ownsRow base e size v n xs) (g j : Nat) (x : Value) (hg : ∀ k, v.ownBlock = some k → k ≠ g) : (w.setCell ⟨g, j, none⟩ x).ownsRow base e size v n xs := by
  refine ⟨h.1, ?_⟩
  rcases h.2 with hn | ⟨b, cap, cur, hv, hb, hh, rest⟩
  · exact .inl hn
  · refine .inr ⟨b, cap, cur, hv, hb, ?_, rest⟩
    rw [← hh]
    show (w.heap.modify g _)[b]? = _
    rw [Array.getElem?_modify, if_neg (fun e => hg b (by rw [hv]; rfl) e.symm)]
theorem rdg_ne {α : Type} {enc : α → List Value} {sz : Nat} {w : World} {A : Option Addr} {n c : Nat} {l : List α} (h : RdG enc sz w A n c l) (g : Nat) (hA : 0 < n → ∀ a, A = some a → a.block ≠ g) (j : Nat) (x : Value) : RdG enc sz (w.setCell ⟨g, j, none⟩ x) A n c l := by
  obtain ⟨hl, h1, h2, hx⟩ := h
  refine ⟨hl, h1, h2, fun h0 => ?_⟩
  obtain ⟨b, o, rfl, hb, hc⟩ := hx h0
  refine ⟨b, o, rfl, by rw [World.size_setCell]; exact hb, fun k hk i v hv => ?_⟩
  rw [World.cell?_setCell_other _ _ _ _ (by intro e; have e2 := congrArg Addr.block e; exact hA h0 _ rfl e2.symm)]
  exact hc k hk i v hv
theorem row_setCell {w : World} {g b : Nat} {o : Obj} (h : w.heap[g]? = some o) (j : Nat) (x : Value) (hne : g ≠ b) : (w.setCell ⟨b, j, none⟩ x).heap[g]? = some o := by
  rw [← h]
  show (w.heap.modify b _)[g]? = _
  rw [Array.getElem?_modify, if_neg (fun e => hne e.symm)]
theorem set3row {w : World} {g : Nat} {a b c x y z : Value} {t : TypeId} {fr : Nat × Nat} (h : w.heap[g]? = some (.cells #[a, b, c] t fr)) : (((w.setCell ⟨g, 0, none⟩ x).setCell ⟨g, 1, none⟩ y).setCell ⟨g, 2, none⟩ z).heap[g]? = some (.cells #[x, y, z] t fr) := by
  rw [set_row (set_row (set_row h 0 x) 1 y) 2 z]
  rfl
/-- sizes at which Go's rows are copied -/
structure LineOk (y : LQ) : Prop where
  by_ : y.by_.length ≤ 4294967000
  cs : y.cs.length ≤ 4294967000
  parts : ∀ c ∈ y.cs, c.l.length ≤ 4294967000
def withParts (x : C5) (A : Option Addr) (n c : Nat) : C5 := ⟨x.k, x.v, A, n, c⟩
/-- the cells of a line while their parts are copied: a row of the call's own -/
structure CellsIn (w : World) (lo B g n c : Nat) (cs : List CQ) (D : List C5) : Prop where
  len : D.length = n
  own : w.ownsRow B 72 5 (.slice (some ⟨g, 0, none⟩) n c) n (D.flatMap C5.cells)
  each : ∀ (j : Nat) (x : C5) (y : CQ), D[j]? = some x → cs[j]? = some y → CellR w x y
  far : ∀ (j : Nat) (x : C5), D[j]? = some x → 0 < x.n → ∀ a, x.A = some a → a.block ≠ g ∧ (a.block < lo ∨ B ≤ a.block)
theorem CellsIn.below {w w' : World} {lo B g n c : Nat} {cs : List CQ} {D : List C5} (h : CellsIn w lo B g n c cs D) (b : Below w.heap.size w w') : CellsIn w' lo B g n c cs D :=
  ⟨h.len, own_below h.own b, fun j x y hx hy => cellR_keeps _ _ _ _ (h.each j x y hx hy) (sees_below b), h.far⟩
theorem CellsIn.put {w : World} {lo B g n c : Nat} {cs : List CQ} {D : List C5} (h : CellsIn w lo B g n c cs D) {k : Nat} {x : C5} {y : CQ} (hx : D[k]? = some x) (hy : cs[k]? = some y) (A' : Option Addr) (c' : Nat) (hr : RdP w A' x.n c' y.l) (hb : 0 < x.n → ∀ a, A' = some a → a.block ≠ g ∧ B ≤ a.block) :
    CellsIn (w.setCell ⟨g, k * 5 + 4, none⟩ (.slice A' x.n c')) lo B g n c cs (D.set k (withParts x A' x.n c')) := by
  refine ⟨by rw [List.length_set]; exact h.len, ?_, ?_, ?_⟩
  · have := own_set13 h.own (k * 5 + 4) (.slice A' x.n c')
    rwa [flat_set c5len D k 4 (.slice A' x.n c') x (withParts x A' x.n c') hx rfl (by omega)] at this
  · intro j x2 y2 hx2 hy2
    rw [List.getElem?_set] at hx2
    split at hx2
    · rename_i e; subst e
      rw [if_pos (List.getElem?_eq_some_iff.1 hx).1] at hx2
      injection hx2 with hx2
      subst hx2
      rw [hy] at hy2; injection hy2 with hy2; subst hy2
      obtain ⟨e1, e2, _⟩ := h.each k x y hx hy
      exact ⟨e1, e2, rdg_ne hr g (fun h0 a ha => (hb h0 a ha).1) _ _⟩
    · obtain ⟨e1, e2, e3⟩ := h.each j x2 y2 hx2 hy2
      exact ⟨e1, e2, rdg_ne e3 g (fun h0 a ha => (h.far j x2 hx2 h0 a ha).1) _ _⟩
  · intro j x2 hx2 h0 a ha
    rw [List.getElem?_set] at hx2
    split at hx2
    · rename_i e; subst e
      rw [if_pos (List.getElem?_eq_some_iff.1 hx).1] at hx2
      injection hx2 with hx2
      subst hx2
      exact ⟨(hb h0 a ha).1, .inr (hb h0 a ha).2⟩
    · exact h.far j x2 hx2 h0 a ha
theorem CellsIn.reads {w : World} {lo B g n c : Nat} {cs : List CQ} {D : List C5} (h : CellsIn w lo B g n c cs D) (hl : cs.length = n) : RdCs w (some ⟨g, 0, none⟩) n c cs := by
  obtain ⟨A, c2, e, hrd⟩ := RdG.own_ c5len (by omega) h.own
  injection e with e1 _ e3
  subst e1 e3
  exact ⟨D, hrd, by rw [h.len, hl], h.each⟩
theorem CellsIn.ne {w : World} {lo B g n c : Nat} {cs : List CQ} {D : List C5} (h : CellsIn w lo B g n c cs D) (b j : Nat) (v : Value) (hb : lo ≤ b ∧ b < B) (hg : B ≤ g) : CellsIn (w.setCell ⟨b, j, none⟩ v) lo B g n c cs D :=
  ⟨h.len, own_ne h.own b j v (fun k hk => by have e : g = k := by { simpa [Value.ownBlock] using hk }; omega),
    fun i x y hx hy => ⟨(h.each i x y hx hy).1, (h.each i x y hx hy).2.1, rdg_ne (h.each i x y hx hy).2.2 b (fun h0 a ha => by have := (h.far i x hx h0 a ha).2; omega) _ _⟩, h.far⟩
/-- the cells of a copied line: none, or a row of the call's own -/
def CellsOr (w : World) (lo B : Nat) (A : Option Addr) (n c : Nat) (cs : List CQ) : Prop := (n = 0 ∧ c ≤ maxLen) ∨ ∃ g D, A = some ⟨g, 0, none⟩ ∧ B ≤ g ∧ CellsIn w lo B g n c cs D
theorem CellsOr.reads {w : World} {lo B : Nat} {A : Option Addr} {n c : Nat} {cs : List CQ} (h : CellsOr w lo B A n c cs) (hl : cs.length = n) : RdCs w A n c cs := by
  rcases h with ⟨rfl, hc⟩ | ⟨g, D, rfl, _, h⟩
  · rw [List.eq_nil_of_length_eq_zero hl]; exact RdR.empty_ w A hc
  · exact h.reads hl
theorem CellsOr.below {w w' : World} {lo B : Nat} {A : Option Addr} {n c : Nat} {cs : List CQ} (h : CellsOr w lo B A n c cs) (b : Below w.heap.size w w') : CellsOr w' lo B A n c cs := by
  rcases h with h0 | ⟨g, D, e, hb, hc⟩
  · exact .inl h0
  · exact .inr ⟨g, D, e, hb, hc.below b⟩
theorem CellsOr.ne {w : World} {lo B : Nat} {A : Option Addr} {n c : Nat} {cs : List CQ} (h : CellsOr w lo B A n c cs) (b j : Nat) (v : Value) (hb : lo ≤ b ∧ b < B) : CellsOr (w.setCell ⟨b, j, none⟩ v) lo B A n c cs := by
  rcases h with h0 | ⟨g, D, e, hB, hc⟩
  · exact .inl h0
  · exact .inr ⟨g, D, e, hB, hc.ne b j v hb hB⟩
theorem CellsOr.agree {w W : World} {lo hi B : Nat} {A : Option Addr} {n c : Nat} {cs : List CQ} (h : CellsOr w lo B A n c cs) (hl : cs.length = n) (hB : hi ≤ B) (ha : Agree lo hi w W) : RdCs W A n c cs := by
  rcases h with ⟨rfl, hc⟩ | ⟨g, D, rfl, hg, h⟩
  · rw [List.eq_nil_of_length_eq_zero hl]; exact RdR.empty_ W A hc
  · obtain ⟨A, c2, e, hrd⟩ := RdG.own_ c5len (by omega) h.own
    injection e with e1 _ e3
    subst e1 e3
    refine ⟨D, rdg_agree hrd (fun _ a ha => by injection ha with ha; subst ha; exact .inr (by show hi ≤ g; omega)) ha, by rw [h.len, hl], fun j x y hx hy => ?_⟩
    obtain ⟨e1, e2, e3⟩ := h.each j x y hx hy
    exact ⟨e1, e2, rdg_agree e3 (fun h0 a ha => by have := (h.far j x hx h0 a ha).2; omega) ha⟩
/-- a line while it is copied -/
structure OwnSt (lo : Nat) (w wr : World) (g0 g1 B1 B4 : Nat) (x : LnR) (y : LQ) : Prop where
  box : wr.heap[g0]? = some (lineBox x)
  res : wr.heap[g1]? = some (lineBox ⟨0, none, 0, 0, none, 0, 0⟩)
  own : wr.ownsRow B1 40 2 (.slice x.ba x.bn x.bc) x.bn (y.by_.flatMap D2.cells)
  cells : CellsOr wr lo B4 x.ca x.cn x.cc y.cs
  bel : Below w.heap.size w wr
  sep : ∀ k, (Value.slice x.ba x.bn x.bc).ownBlock = some k → k < B4
  low : lo ≤ w.heap.size ∧ w.heap.size ≤ g0 ∧ g0 < g1 ∧ g1 < B1 ∧ B1 ≤ B4
theorem OwnSt.below {lo : Nat} {w wr wr' : World} {g0 g1 B1 B4 : Nat} {x : LnR} {y : LQ} (h : OwnSt lo w wr g0 g1 B1 B4 x y) (b : Below wr.heap.size wr wr') : OwnSt lo w wr' g0 g1 B1 B4 x y :=
  ⟨row_below h.box b, row_below h.res b, own_below h.own b, h.cells.below b, below_then h.bel b, h.sep, h.low⟩
theorem OwnSt.put {lo : Nat} {w wr : World} {g0 g1 B1 B4 : Nat} {x : LnR} {y : LQ} (h : OwnSt lo w wr g0 g1 B1 B4 x y) {g : Nat} {D : List C5} (hg : x.ca = some ⟨g, 0, none⟩) (hB : B4 ≤ g) (hc : CellsIn wr lo B4 g x.cn x.cc y.cs D) {k : Nat} {u : C5} {v : CQ} (hu : D[k]? = some u) (hv : y.cs[k]? = some v) (A' : Option Addr) (c' : Nat) (hr : RdP wr A' u.n c' v.l)
    (hb : 0 < u.n → ∀ a, A' = some a → a.block ≠ g ∧ B4 ≤ a.block) : OwnSt lo w (wr.setCell ⟨g, k * 5 + 4, none⟩ (.slice A' u.n c')) g0 g1 B1 B4 x y := by
  have hl := h.low
  refine ⟨row_setCell h.box _ _ (by omega), row_setCell h.res _ _ (by omega), own_ne h.own g _ _ (fun k hk => by have := h.sep k hk; omega), .inr ⟨g, _, hg, hB, hc.put hu hv A' c' hr hb⟩, h.bel.setCell (show w.heap.size ≤ g by omega) _, h.sep, h.low⟩
theorem slice_zero {A : Option Addr} {n c : Nat} {w : World} {base sz : Nat} {e : TypeId} {xs : List Value} (h : w.ownsRow base e sz (.slice A n c) n xs) : (n = 0) ∨ ∃ g, A = some ⟨g, 0, none⟩ := by
  rcases h.2 with ⟨hv, h0⟩ | ⟨g, cap, cur, hv, _⟩
  · exact .inl h0
  · injection hv with e1; exact .inr ⟨g, e1⟩
/-- the cells of a line, copied: none, or a row of the call's own -/
theorem cloneCells_any (A : Option Addr) (n c : Nat) (cs : List CQ) (w0 w : World) (h : RdCs w0 A n c cs) (hw : Below w0.heap.size w0 w) (hn : n ≤ 4294967296) :
    Calls Tryz.prog 69 #[.slice A n c] w fun e w' => ∃ A' c', e = .returned (.slice A' n c') ∧ CellsOr w' w0.heap.size w.heap.size A' n c' cs ∧ Below w.heap.size w w' := by
  obtain ⟨L, h1, h2, h3⟩ := h
  refine (cloneC_any A n c L w (h1.below hw) hn).mono ?_
  rintro e w' ⟨v, rfl, ho, hb⟩
  obtain ⟨A', c', rfl, hrd⟩ := RdG.own_ c5len (by omega) ho
  refine ⟨A', c', rfl, ?_, hb⟩
  rcases slice_zero ho with rfl | ⟨g, rfl⟩
  · exact .inl ⟨rfl, hrd.2.2.1⟩
  · have hg := (ho.lt g rfl).1
    have hs := hw.size
    refine .inr ⟨g, L, rfl, hg, h1.len, ho, fun j x y hx hy => cellR_keeps _ _ _ _ (cellR_keeps _ _ _ _ (h3 j x y hx hy) (sees_below hw)) (sees_below hb), fun j x hx h0 a ha => ?_⟩
    have hj := (List.getElem?_eq_some_iff.1 hx).1
    obtain ⟨b, o, e, hlt⟩ := (h3 j x _ hx (List.getElem?_eq_getElem (by omega))).2.2.hsize h0
    rw [e] at ha; injection ha with ha; subst ha
    show b ≠ g ∧ (b < _ ∨ _)
    omega
theorem S3_at {cs : List CQ} (h : ∀ c ∈ cs, c.l.length ≤ 4294967000) {k : Nat} {v : CQ} (hv : cs[k]? = some v) : v.l.length ≤ 4294967000 := h v (List.mem_of_getElem? hv)
set_option maxHeartbeats 6400000 in
theorem own2_any (x : LnR) (y : LQ) (w0 w : World) (h : LineR w0 x y) (hw0 : Below w0.heap.size w0 w) (hs : LineOk y) :
    Calls Tryz.prog 44 #[x.agg] w fun e w' => ∃ z : LnR, e = .returned z.agg ∧ (∀ W, Agree w0.heap.size w.heap.size w' W → LineR W z y) ∧ w'.ownsRow w.heap.size 40 2 (.slice z.ba z.bn z.bc) z.bn (y.by_.flatMap D2.cells) ∧ Below w.heap.size w w' ∧ ∃ B, (∀ q, (Value.slice z.ba z.bn z.bc).ownBlock = some q → q < B) ∧ w.heap.size ≤ B ∧ ∀ W, Agree w0.heap.size B w' W → RdCs W z.ca z.cn z.cc y.cs := by
  obtain ⟨xk, xca, xcn, xcc, xba, xbn, xbc⟩ := x
  obtain ⟨yk, ycs, yby⟩ := y
  obtain ⟨hk, hcs, hby⟩ := h
  obtain ⟨s1, s2, s3⟩ := hs
  dsimp only at hk hcs hby s1 s2 s3
  subst hk
  have HCL := Lib.hid hcs.len; have HBL := Lib.hid hby.len
  have S2 := Lib.hid s2; have S3 := Lib.hid s3
  obtain ⟨w1, hw1⟩ : ∃ w1, w1 = (w.alloc (lineBox ⟨xk, xca, xcn, xcc, xba, xbn, xbc⟩)).alloc (lineBox ⟨0, none, 0, 0, none, 0, 0⟩) := ⟨_, rfl⟩
  have HW := Lib.hid hw1
  have R0 : Hid (w1.heap[w.heap.size]? = some (lineBox ⟨xk, xca, xcn, xcc, xba, xbn, xbc⟩)) := by rw [hw1]; exact row_below (heap_alloc_new _ _) (below_new (Below.refl _ _) _)
  have R1 : Hid (w1.heap[w.heap.size + 1]? = some (lineBox ⟨0, none, 0, 0, none, 0, 0⟩)) := by rw [hw1]; have := heap_alloc_new (w.alloc (lineBox ⟨xk, xca, xcn, xcc, xba, xbn, xbc⟩)) (lineBox ⟨0, none, 0, 0, none, 0, 0⟩); rwa [World.size_alloc] at this
  have HB : Hid (Below w.heap.size w w1) := by rw [hw1]; exact below_new (below_new (Below.refl _ _) _) _
  have SZ : Hid (w1.heap.size = w.heap.size + 1 + 1) := by show _ = _; rw [hw1]; simp only [World.size_alloc]
  obtain ⟨p0, p1, p2⟩ := line_row R0.out
  have f2 := frozen_row R0.out 2
  dsimp only at p0 p1 p2
  have C1 := Lib.hid (cloneD_any xba xbn xbc yby w1 (hby.below (below_then hw0 HB.out)) (by have := HBL.out; omega))
  have HCS0 := Lib.hid hcs
  have HW0 := Lib.hid hw0
  obtain ⟨lo, hlo⟩ : ∃ lo, Hid (w0.heap.size = lo) := ⟨_, rfl⟩
  rw [hlo.out]
  have hlow : Hid (lo ≤ w.heap.size) := by show _ ≤ _; rw [← hlo.out]; exact hw0.size
  have HB0 := Lib.hid (HB.out.size)
  clear hw1 hcs hby s1 s2 s3 hw0
  go_enter Tryz.func44, Tryz.ntmps44
  go_upto_region 1 with fail
  rw [show (w.alloc (lineBox ⟨xk, xca, xcn, xcc, xba, xbn, xbc⟩)).alloc (lineBox ⟨0, none, 0, 0, none, 0, 0⟩) = w1 from HW.out.symm]
  clear HW
  generalize hg1 : w.heap.size + 1 = g1 at R1 SZ ⊢
  have HG1 := Lib.hid hg1
  clear hg1
  go_upto_region 2 with (go_at_call 68; refine C1.out.mono ?_; rintro e w2 ⟨v2, rfl, o2, b2⟩; have q2 := row_below R0.out b2; obtain ⟨p0, p1, p2⟩ := line_row q2; have f2 := frozen_row q2 2; dsimp only at p0 p1 p2; obtain ⟨A2, c2, rfl, hrd2⟩ := RdG.own_ d2len (by omega) o2)
  obtain ⟨w3, hw3⟩ : ∃ w3, w3 = w2.setCell ⟨w.heap.size, 2, none⟩ (.slice A2 xbn c2) := ⟨_, rfl⟩
  rw [← hw3]
  have r0 : w3.heap[w.heap.size]? = some (lineBox ⟨xk, xca, xcn, xcc, A2, xbn, c2⟩) := by rw [hw3, set_row q2 2 _]; rfl
  have r1 : w3.heap[g1]? = some (lineBox ⟨0, none, 0, 0, none, 0, 0⟩) := by rw [hw3]; exact row_setCell (row_below R1.out b2) _ _ (by have := HG1.out; omega)
  have hsz : w3.heap.size = w2.heap.size := by rw [hw3]; exact World.size_setCell _ _ _
  have o3 : w3.ownsRow w1.heap.size 40 2 (.slice A2 xbn c2) xbn (yby.flatMap D2.cells) := by
    rw [hw3]; exact own_ne o2 _ _ _ (fun k hk => by have := (o2.lt k hk).1; have := SZ.out; have := HG1.out; omega)
  have hsep : ∀ k, (Value.slice A2 xbn c2).ownBlock = some k → k < w3.heap.size := fun k hk => by have := (o2.lt k hk).2; omega
  have b3 : Below w.heap.size w w3 := by rw [hw3]; exact (below_then HB.out b2).setCell (Nat.le_refl _) _
  have C2 := Lib.hid (cloneCells_any xca xcn xcc ycs w0 w3 HCS0.out (below_then HW0.out b3) (by have := HCL.out; have := S2.out; omega))
  obtain ⟨p0, p1, p2⟩ := line_row r0
  have f1 := frozen_row r0 1
  dsimp only at p0 p1 p2
  rw [hlo.out] at C2
  have Q0 := Lib.hid r0; have Q1 := Lib.hid r1; have O3 := Lib.hid o3; have HSEP := Lib.hid hsep; have B3 := Lib.hid b3; have HSZ := Lib.hid (b2.size); have HSZ2 := Lib.hid hsz
  clear hw3 r0 r1 o3 hsep b3 hsz b2 q2 o2 hrd2 C1 R0 R1 HB
  go_upto_region 3 with (go_at_call 69; refine C2.out.mono ?_; rintro e w4 ⟨A4, c4, rfl, hc4, b4⟩; have q4 := row_below Q0.out b4; obtain ⟨p0, p1, p2⟩ := line_row q4; have f1 := frozen_row q4 1; dsimp only at p0 p1 p2)
  obtain ⟨w5, hw5⟩ : ∃ w5, w5 = w4.setCell ⟨w.heap.size, 1, none⟩ (.slice A4 xcn c4) := ⟨_, rfl⟩
  rw [← hw5]
  have ST : Hid (OwnSt lo w w5 w.heap.size g1 w1.heap.size w3.heap.size ⟨xk, A4, xcn, c4, A2, xbn, c2⟩ ⟨xk, ycs, yby⟩) := by
    have l1 := HG1.out; have l2 := SZ.out; have l3 := HSZ.out; have l4 := HSZ2.out
    refine ⟨by rw [hw5, set_row q4 1 _]; rfl, by rw [hw5]; exact row_setCell (row_below Q1.out b4) _ _ (by omega), ?_, ?_, by rw [hw5]; exact (below_then B3.out b4).setCell (Nat.le_refl _) _, HSEP.out, by have := hlow.out; omega⟩
    · rw [hw5]
      have o4 := own_below O3.out b4
      exact own_ne o4 _ _ _ (fun k hk => by have := (o4.lt k hk).1; omega)
    · rw [hw5]; exact hc4.ne _ _ _ (by have := hlow.out; have := HB0.out; have := HSZ.out; have := HSZ2.out; omega)
  have HCC : Hid (xcn ≤ c4 ∧ c4 ≤ maxLen) := by
    rcases hc4 with ⟨h0, h1⟩ | ⟨g, D, e, hB, hc⟩
    · exact ⟨by omega, h1⟩
    · rcases hc.own.2 with ⟨hv, h0⟩ | ⟨g, cap, cur, hv, _, _, h1, h2, _⟩
      · cases hv
      · injection hv with _ _ e3; subst e3; exact ⟨h1, h2⟩
  obtain ⟨p0, p1, p2⟩ := line_row ST.out.box
  dsimp only at p0 p1 p2
  clear hw5 q4 hc4 b4 C2 Q0 Q1 O3 HSEP B3 HSZ HSZ2 SZ HG1 HB0 HCS0 HW0 f1 f2
  obtain ⟨B1, hB1⟩ : ∃ B, B = w1.heap.size := ⟨_, rfl⟩
  obtain ⟨B4, hB4⟩ : ∃ B, B = w3.heap.size := ⟨_, rfl⟩
  obtain ⟨g0, hg0⟩ : ∃ g, g = w.heap.size := ⟨_, rfl⟩
  rw [← hB1, ← hB4, ← hg0] at ST
  rw [← hg0] at p0 p1 p2
  rw [← hg0]
  clear hB1 hB4 hg0
  go_wp2_with fail
  go_loopw [16] (fun i wr => ∃ k : Nat, k ≤ xcn ∧ i = .int .i64 k ∧ Hid (OwnSt lo w wr g0 g1 B1 B4 ⟨xk, A4, xcn, c4, A2, xbn, c2⟩ ⟨xk, ycs, yby⟩)) (fun i _ => xcn - (intOf i).toNat)
  case atStart => exact ⟨0, Nat.zero_le _, rfl, ST⟩
  case round =>
    clear ST p0 p1 p2
    obtain ⟨k, hk, rfl, ST⟩ := hrel
    have hle : xcn ≤ 9223372036854775807 := by have hm := HCC.out; simp only [maxLen] at hm; omega
    by_cases hlt : k < xcn
    · obtain ⟨g, D, hA, hgB, HC⟩ : ∃ g D, A4 = some ⟨g, 0, none⟩ ∧ B4 ≤ g ∧ Hid (CellsIn wr lo B4 g xcn c4 ycs D) := by
        rcases ST.out.cells with ⟨h0, _⟩ | ⟨g, D, h1, h2, h3⟩
        · dsimp only at h0; omega
        · exact ⟨g, D, h1, h2, h3⟩
      subst hA
      have hDl := HC.out.len
      obtain ⟨u, hu⟩ : ∃ u, Hid (D[k]? = some u) := ⟨_, List.getElem?_eq_getElem (by omega)⟩
      obtain ⟨v, hv⟩ : ∃ v, Hid (ycs[k]? = some v) := ⟨_, List.getElem?_eq_getElem (by have := HCL.out; omega)⟩
      obtain ⟨hr1, hr2, hr3⟩ := HC.out.each k u v hu.out hv.out
      have hfl : ∀ i y, (C5.cells u)[i]? = some y → wr.cell? ⟨g, k * 5 + i, none⟩ = some y := by
        intro i y hy
        have h5 : i < 5 := (List.getElem?_eq_some_iff.1 hy).1
        have := flat_at c5len D k (by omega) i y (by have := hu.out; rw [List.getElem?_eq_getElem (by omega)] at this; injection this with this; rw [this]; exact hy)
        rw [HC.out.own.cellAt (k * 5 + i) (by omega), this]
      have d0 : wr.cell? ⟨g, k * 5, none⟩ = _ := hfl 0 _ rfl
      have d1 := hfl 1 _ rfl
      have d2 := hfl 2 _ rfl
      have d3 := hfl 3 _ rfl
      have d4 := hfl 4 _ rfl
      have y1 : (k : Int) < (xcn : Int) := by omega
      have y0 : (0 : Int) ≤ (k : Int) := by omega
      obtain ⟨wq, hwq⟩ : ∃ W, W = wr.alloc (cellRow u.k u.v (.slice u.A u.n u.c)) := ⟨_, rfl⟩
      have HWQ := Lib.hid hwq
      have bq : Below wr.heap.size wr wq := by rw [hwq]; exact below_new (Below.refl _ _) _
      have rq : wq.heap[wr.heap.size]? = some (cellRow u.k u.v (.slice u.A u.n u.c)) := by rw [hwq]; exact heap_alloc_new _ _
      have STq := Lib.hid (ST.out.below bq)
      have HCq := Lib.hid (HC.out.below bq)
      have fz := HCq.out.own.frozenAt (k * 5 + 4)
      obtain ⟨p0, p1, p2⟩ := line_row STq.out.box
      dsimp only at p0 p1 p2
      obtain ⟨e0, e1, e2, e3, e4⟩ := cell_row5 rq
      have e5 : wq.cell? ⟨g, k * 5 + 4, none⟩ = some (.slice u.A u.n u.c) := by
        have := bq.cell (p := ⟨g, k * 5 + 4, none⟩) (by have := (HC.out.own.lt g rfl).2; exact this)
        rw [this]; exact d4
      have hgq : g < wq.heap.size := (HCq.out.own.lt g rfl).2
      have hwr : g < wr.heap.size := (HC.out.own.lt g rfl).2
      have hbq : wr.heap.size < wq.heap.size := by rw [hwq]; simp
      have hg0q : g0 < wq.heap.size := by have := STq.out.low; have := STq.out.low; omega
      have hB4q : B4 ≤ wq.heap.size := by omega
      have CL : Hid (∀ W, Below wq.heap.size wq W → Calls Tryz.prog 70 #[.slice u.A u.n u.c] W fun e w' => ∃ A' c', e = .returned (.slice A' u.n c') ∧ RdP w' A' u.n c' v.l ∧ (0 < u.n → ∀ a, A' = some a → a.block ≠ g ∧ B4 ≤ a.block) ∧ Below W.heap.size W w') := by
        show ∀ W, _; intro W hW
        have hpl := S3_at S3.out hv.out
        refine (cloneQ_any u.A u.n u.c v.l W ((hr3.below bq).below hW) (by have := hr3.len; omega)).mono ?_
        rintro e w' ⟨z, rfl, ho, hb⟩
        obtain ⟨A', c', rfl, hrd⟩ := RdG.own_ p11len (by omega) ho
        refine ⟨A', c', rfl, hrd, fun _ a ha => ?_, hb⟩
        have h1 := (ho.lt a.block (by rw [ha]; rfl)).1
        have h2 := hW.size
        omega
      clear hfl hwq rq bq hr1 hr2
      go_upto_region 6 with fail
      rw [show wr.alloc (Obj.cells #[Value.int .i64 u.k, .int .i64 u.v.k, .int .i64 u.v.n, .string u.v.s, .slice u.A u.n u.c] 72) = wq from HWQ.out.symm]
      clear HWQ
      as_aux_lemma =>
        have hS0 : wq.cell? ⟨g0, 1, none⟩ = some (.slice (some ⟨g, 0, none⟩) xcn c4) ∧ wq.cell? ⟨wr.heap.size, 4, none⟩ = some (.slice u.A u.n u.c) ∧ (∃ z, wq.cell? ⟨g, k * 5 + 4, none⟩ = some z) ∧ wq.frozen? ⟨g, k * 5 + 4, none⟩ = false ∧ g0 < wq.heap.size ∧ g < wq.heap.size ∧ wr.heap.size < wq.heap.size := ⟨p1, e4, ⟨_, e5⟩, fz, hg0q, hgq, hbq⟩
        have K : Hid (∀ W W' : World, (W.cell? ⟨g0, 1, none⟩ = some (.slice (some ⟨g, 0, none⟩) xcn c4) ∧ W.cell? ⟨wr.heap.size, 4, none⟩ = some (.slice u.A u.n u.c) ∧ (∃ z, W.cell? ⟨g, k * 5 + 4, none⟩ = some z) ∧ W.frozen? ⟨g, k * 5 + 4, none⟩ = false ∧ g0 < W.heap.size ∧ g < W.heap.size ∧ wr.heap.size < W.heap.size) → Below W.heap.size W W' → (W'.cell? ⟨g0, 1, none⟩ = some (.slice (some ⟨g, 0, none⟩) xcn c4) ∧ W'.cell? ⟨wr.heap.size, 4, none⟩ = some (.slice u.A u.n u.c) ∧ (∃ z, W'.cell? ⟨g, k * 5 + 4, none⟩ = some z) ∧ W'.frozen? ⟨g, k * 5 + 4, none⟩ = false ∧ g0 < W'.heap.size ∧ g < W'.heap.size ∧ wr.heap.size < W'.heap.size)) := by
          show ∀ W W', _
          rintro W W' ⟨k1, k2, ⟨z, k3⟩, k4, k5, k6, k7⟩ hb
          refine ⟨(hb.cell (p := ⟨g0, 1, none⟩) k5).trans k1, (hb.cell (p := ⟨wr.heap.size, 4, none⟩) k7).trans k2, ⟨z, (hb.cell (p := ⟨g, k * 5 + 4, none⟩) k6).trans k3⟩, ?_, Nat.lt_of_lt_of_le k5 hb.size, Nat.lt_of_lt_of_le k6 hb.size, Nat.lt_of_lt_of_le k7 hb.size⟩
          simp only [World.frozen?, hb.block g k6] at k4 ⊢
          exact k4
        have hng : g ≠ g0 := by have := ST.out.low; omega
        have hnr : g ≠ wr.heap.size := by omega
        have K2 : Hid (∀ (W : World) (x : Value), (W.cell? ⟨g0, 1, none⟩ = some (.slice (some ⟨g, 0, none⟩) xcn c4) ∧ W.cell? ⟨wr.heap.size, 4, none⟩ = some (.slice u.A u.n u.c) ∧ (∃ z, W.cell? ⟨g, k * 5 + 4, none⟩ = some z) ∧ W.frozen? ⟨g, k * 5 + 4, none⟩ = false ∧ g0 < W.heap.size ∧ g < W.heap.size ∧ wr.heap.size < W.heap.size) → ((W.setCell ⟨g, k * 5 + 4, none⟩ x).cell? ⟨g0, 1, none⟩ = some (.slice (some ⟨g, 0, none⟩) xcn c4) ∧ (W.setCell ⟨g, k * 5 + 4, none⟩ x).cell? ⟨wr.heap.size, 4, none⟩ = some (.slice u.A u.n u.c) ∧ (∃ z, (W.setCell ⟨g, k * 5 + 4, none⟩ x).cell? ⟨g, k * 5 + 4, none⟩ = some z) ∧ (W.setCell ⟨g, k * 5 + 4, none⟩ x).frozen? ⟨g, k * 5 + 4, none⟩ = false ∧ g0 < (W.setCell ⟨g, k * 5 + 4, none⟩ x).heap.size ∧ g < (W.setCell ⟨g, k * 5 + 4, none⟩ x).heap.size ∧ wr.heap.size < (W.setCell ⟨g, k * 5 + 4, none⟩ x).heap.size)) := by
          show ∀ W x, _
          rintro W x ⟨k1, k2, ⟨z, k3⟩, k4, k5, k6, k7⟩
          refine ⟨?_, ?_, ⟨x, World.cell?_setCell_same _ _ _ k3⟩, by rw [World.frozen?_setCell]; exact k4, by rw [World.size_setCell]; exact k5, by rw [World.size_setCell]; exact k6, by rw [World.size_setCell]; exact k7⟩
          · rw [World.cell?_setCell_other _ _ _ _ (by intro e; simp only [Addr.mk.injEq] at e; omega)]; exact k1
          · rw [World.cell?_setCell_other _ _ _ _ (by intro e; simp only [Addr.mk.injEq] at e; omega)]; exact k2
        clear p0 p1 p2 e0 e1 e2 e3 e4 e5 fz d0 d1 d2 d3 d4
        go_region_held3 (fun W => W.cell? ⟨g0, 1, none⟩ = some (.slice (some ⟨g, 0, none⟩) xcn c4) ∧ W.cell? ⟨wr.heap.size, 4, none⟩ = some (.slice u.A u.n u.c) ∧ (∃ z, W.cell? ⟨g, k * 5 + 4, none⟩ = some z) ∧ W.frozen? ⟨g, k * 5 + 4, none⟩ = false ∧ g0 < W.heap.size ∧ g < W.heap.size ∧ wr.heap.size < W.heap.size)
          (first
            | exact K.out _ _ hS0 ((Below.refl _ _).drew)
            | exact K.out _ _ (by assumption) bb
            | exact K2.out _ _ (by assumption))
          ((go_at_call 70; refine (CL.out _ (by first | exact (Below.refl _ _).drew | exact Below.refl _ _)).mono ?_; rintro e wy ⟨A', c', rfl, hp, hne, bb⟩; have hSy := K.out _ _ (by assumption) bb; obtain ⟨_, _, ⟨z, hz⟩, hfz, _, _, _⟩ := hSy))
        all_goals
          have by_ : Below wq.heap.size wq wy := ((Below.refl _ _).drew).trans bb
          have STy := Lib.hid ((STq.out.below by_).put rfl hgB (HCq.out.below by_) hu.out hv.out A' c' hp hne)
          go_wp2_with fail
          exact ⟨⟨k + 1, by omega, by go_num, STy⟩, by simp [intOf]; omega⟩
    · obtain rfl : k = xcn := by omega
      have y1 : ¬ (k : Int) < (k : Int) := by omega
      obtain ⟨p0, p1, p2⟩ := line_row ST.out.box
      obtain ⟨r0, r1, r2⟩ := line_row ST.out.res
      have f0 := frozen_row ST.out.res
      dsimp only at p0 p1 p2 r0 r1 r2
      go_wp2_with fail
      refine bodyPost_ret (v := LnR.agg ⟨xk, A4, k, c4, A2, xbn, c2⟩) (results_cell_row rfl _ _ g1 37 _ (0, 0) _ rfl (set3row ST.out.res) Tryz.underlying37 rfl (by kernel_rfl)) rfl ?_
      have hl := ST.out.low
      have hlg : w.heap.size ≤ g1 := by omega
      have hc3 := ((ST.out.cells.ne g1 0 (.int .i64 xk) (by omega)).ne g1 1 (.slice A4 k c4) (by omega)).ne g1 2 (.slice A2 xbn c2) (by omega)
      have hbo : ∀ k2, (Value.slice A2 xbn c2).ownBlock = some k2 → k2 ≠ g1 := fun k2 hk2 => by have := (ST.out.own.lt k2 hk2).1; omega
      have ho3 : ((((wr.setCell ⟨g1, 0, none⟩ (.int .i64 xk)).setCell ⟨g1, 1, none⟩ (.slice A4 k c4)).setCell ⟨g1, 2, none⟩ (.slice A2 xbn c2))).ownsRow B1 40 2 (.slice A2 xbn c2) xbn (yby.flatMap D2.cells) :=
        own_ne (own_ne (own_ne ST.out.own g1 0 _ (fun k2 hk2 => hbo k2 hk2)) g1 1 _ (fun k2 hk2 => hbo k2 hk2)) g1 2 _ (fun k2 hk2 => hbo k2 hk2)
      have hob : ∀ a, A2 = some a → (Value.slice A2 xbn c2).ownBlock = some a.block := fun a ha => by rw [ha]; rfl
      obtain ⟨A9, c9, e9, hrd9⟩ := RdG.own_ d2len (by omega) ho3
      injection e9 with e9 _ e10
      subst e9 e10
      exact ⟨⟨xk, A4, k, c4, A2, xbn, c2⟩, rfl, fun W hW => ⟨rfl, hc3.agree HCL.out (by omega) hW, rdg_agree hrd9 (fun _ a ha => .inr (by have := (ho3.lt a.block (hob a ha)).1; omega)) hW⟩, own_mono ho3 (by omega), ((ST.out.bel.setCell hlg _).setCell hlg _).setCell hlg _, B4, ST.out.sep, by omega, fun W hW => hc3.agree HCL.out (Nat.le_refl B4) hW⟩
theorem own_any (x : LnR) (y : LQ) (w0 w : World) (h : LineR w0 x y) (hw0 : Below w0.heap.size w0 w) (hs : LineOk y) :
    Calls Tryz.prog 44 #[x.agg] w fun e w' => ∃ z : LnR, e = .returned z.agg ∧ (∀ W, Agree w0.heap.size w.heap.size w' W → LineR W z y) ∧ w'.ownsRow w.heap.size 40 2 (.slice z.ba z.bn z.bc) z.bn (y.by_.flatMap D2.cells) ∧ Below w.heap.size w w' :=
  (own2_any x y w0 w h hw0 hs).mono fun _ _ ⟨z, h1, h2, h3, h4, _⟩ => ⟨z, h1, h2, h3, h4⟩
end Go.Proofs.YtfljhnalmiibeaaGreat

