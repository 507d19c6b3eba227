/- Several texts laid together: Cell, MulWrite, MulDots, MulSort, MulJoin. -/
import Derived.Test.YtomdbjmbkfdcmaaMbRowMem
import Derived.Test.YtomdbjmbkfdcmaaMbBase
import Derived.Test.YtomdbjmbkfdcmaaMbIns
import Derived.Deep.RegionHeld3
import Derived.Laws.NewBlocks
import Derived.Test.YtomdbjmbkfdcmaaMbKS
import Derived.Deep.DeepCutAuto
import Derived.Deep.CutBlock
import Derived.Deep.RegionWith
namespace Go.Proofs.Ytomdbjmbkfdcmaa
set_option maxRecDepth 100000
open Go.RowKit

abbrev cellRow (k : Int) (v : V3) (s : Value) : Obj := .cells #[.int .i64 k, .int .i64 v.k, .int .i64 v.n, .string v.s, s] 26
abbrev valRow (v : V3) : Obj := .cells #[.int .i64 v.k, .int .i64 v.n, .string v.s] 23
abbrev cellV (k : Int) (v : V3) (s : Value) : Value := .agg #[.int .i64 k, .int .i64 v.k, .int .i64 v.n, .string v.s, s]
theorem cell_row5 {w : World} {g : Nat} {k : Int} {v : V3} {s : Value} (h : w.heap[g]? = some (cellRow k v s)) : w.cell? ⟨g, 0, none⟩ = some (.int .i64 k) ∧ w.cell? ⟨g, 1, none⟩ = some (.int .i64 v.k) ∧ w.cell? ⟨g, 2, none⟩ = some (.int .i64 v.n) ∧ w.cell? ⟨g, 3, none⟩ = some (.string v.s) ∧ w.cell? ⟨g, 4, none⟩ = some s := by
  have h2 := cell_row h
  refine ⟨?_, ?_, ?_, ?_, ?_⟩ <;> (rw [h2]; rfl)
theorem val_row {w : World} {g : Nat} {v : V3} (h : w.heap[g]? = some (valRow v)) : w.cell? ⟨g, 0, none⟩ = some (.int .i64 v.k) ∧ w.cell? ⟨g, 1, none⟩ = some (.int .i64 v.n) ∧ w.cell? ⟨g, 2, none⟩ = some (.string v.s) := by
  have h2 := cell_row h
  refine ⟨?_, ?_, ?_⟩ <;> (rw [h2]; rfl)

theorem set5 {w : World} {g : Nat} {a b c d e x y z u v : Value} {t : TypeId} {fr : Nat × Nat} (h : w.heap[g]? = some (.cells #[a, b, c, d, e] t fr)) :
    (((((w.setCell ⟨g, 0, none⟩ x).setCell ⟨g, 1, none⟩ y).setCell ⟨g, 2, none⟩ z).setCell ⟨g, 3, none⟩ u).setCell ⟨g, 4, none⟩ v).heap[g]? = some (.cells #[x, y, z, u, v] t fr) := by
  rw [set_row (set_row (set_row (set_row (set_row h 0 x) 1 y) 2 z) 3 u) 4 v]
  rfl

end Go.Proofs.Ytomdbjmbkfdcmaa

namespace Go.Proofs.Ytomdbjmbkfdcmaa
set_option maxRecDepth 100000
open Go.RowKit

/-- the boxes of a call of Write -/
def wBoxes (k : Int) (v0 : V3) (s : Value) (v : V3) (d : D2) (B : Option Addr) (m cc : Nat) (w : World) : World :=
  ((((w.alloc (cellRow k v0 s)).alloc (valRow v)).alloc (dotRow d)).alloc (vecBox B m cc)).alloc (cellRow 0 ⟨0, 0, ⟨#[]⟩⟩ (.slice none 0 0))

theorem wBoxes_is (k : Int) (v0 : V3) (s : Value) (v : V3) (d : D2) (B : Option Addr) (m cc : Nat) (w : World) :
    (wBoxes k v0 s v d B m cc w).heap.size = w.heap.size + 5 ∧ Below w.heap.size w (wBoxes k v0 s v d B m cc w)
    ∧ (wBoxes k v0 s v d B m cc w).heap[w.heap.size]? = some (cellRow k v0 s) ∧ (wBoxes k v0 s v d B m cc w).heap[w.heap.size + 1]? = some (valRow v) ∧ (wBoxes k v0 s v d B m cc w).heap[w.heap.size + 1 + 1]? = some (dotRow d)
    ∧ (wBoxes k v0 s v d B m cc w).heap[w.heap.size + 1 + 1 + 1]? = some (vecBox B m cc) ∧ (wBoxes k v0 s v d B m cc w).heap[w.heap.size + 1 + 1 + 1 + 1]? = some (cellRow 0 ⟨0, 0, ⟨#[]⟩⟩ (.slice none 0 0)) := by
  have hat : ∀ (w : World) (o : Obj) (g : Nat), w.heap.size = g → (w.alloc o).heap[g]? = some o := fun w o g h => by subst h; exact heap_alloc_new _ _
  refine ⟨by simp [wBoxes], ?_, ?_, ?_, ?_, ?_, ?_⟩
  · exact below_new (below_new (below_new (below_new (below_new (Below.refl _ _) _) _) _) _) _
  · rw [wBoxes, Below.heap_alloc _ _ _ (by simp only [World.size_alloc]; omega), Below.heap_alloc _ _ _ (by simp only [World.size_alloc]; omega), Below.heap_alloc _ _ _ (by simp only [World.size_alloc]; omega), Below.heap_alloc _ _ _ (by simp only [World.size_alloc]; omega)]; exact hat _ _ _ rfl
  · rw [wBoxes, Below.heap_alloc _ _ _ (by simp only [World.size_alloc]; omega), Below.heap_alloc _ _ _ (by simp only [World.size_alloc]; omega), Below.heap_alloc _ _ _ (by simp only [World.size_alloc]; omega)]; exact hat _ _ _ (by simp)
  · rw [wBoxes, Below.heap_alloc _ _ _ (by simp only [World.size_alloc]; omega), Below.heap_alloc _ _ _ (by simp only [World.size_alloc]; omega)]; exact hat _ _ _ (by simp)
  · rw [wBoxes, Below.heap_alloc _ _ _ (by simp)]; exact hat _ _ _ (by simp)
  · exact hat _ _ _ (by simp)

theorem own_set {w : World} {base : Nat} {e : TypeId} {size : Nat} {v : Value} {n : Nat} {xs : List Value} (h : w.ownsRow base e size v n xs) (g j : Nat) (x : Value) (hg : g < base) : (w.setCell ⟨g, j, none⟩ x).ownsRow base e size v n xs := by
  refine ⟨h.1, ?_⟩
  rcases h.2 with hn | ⟨b, cap, cur, hv, hb, hh, rest⟩
  · exact .inl hn
  · refine .inr ⟨b, cap, cur, hv, hb, ?_, rest⟩
    rw [← hh]
    show (w.heap.modify g _)[b]? = _
    rw [Array.getElem?_modify, if_neg (by omega)]

set_option maxHeartbeats 3200000 in
theorem write_any (k : Int) (v0 : V3) (A : Option Addr) (n c : Nat) (l : List P11) (v : V3) (d : D2) (B : Option Addr) (m cc : Nat) (kn : List Int) (w : World) (h : RdP w A n c l) (hn : n ≤ 4294967295) (hk : Rd w B m cc (vals .i64 kn)) :
    Calls Try.prog 13 #[cellV k v0 (.slice A n c), v.agg, d.agg, .slice B m cc] w fun e w' =>
      ∃ A' c', e = .returned (cellV k v0 (.slice A' (writeL l v d kn).length c')) ∧ RdP w' A' (writeL l v d kn).length c' (writeL l v d kn) ∧ Below w.heap.size w w' := by
  obtain ⟨w1, hw1⟩ : ∃ w1, w1 = wBoxes k v0 (.slice A n c) v d B m cc w := ⟨_, rfl⟩
  obtain ⟨hs1, hb1, h4, h5, h6, h7, h8⟩ := wBoxes_is k v0 (.slice A n c) v d B m cc w
  rw [← hw1] at hs1 hb1 h4 h5 h6 h7 h8
  have CK := Lib.hid (keep_any 39 #[.pointer (some ⟨w.heap.size + 1 + 1, 0, none⟩), .pointer (some ⟨w.heap.size + 1 + 1 + 1, 0, none⟩)] (keptW d kn) A n c l w1 Try.egWrite (h.below hb1) (by omega) (write1_any d B m cc kn (w.heap.size + 1 + 1) (w.heap.size + 1 + 1 + 1) w1 h6 h7 (hk.below hb1)))
  obtain ⟨L, hL⟩ : ∃ L, Hid (L = l.filter (keptW d kn)) := ⟨_, rfl⟩
  have hlen : L.length ≤ 4294967295 := by rw [hL.out]; have := List.length_filter_le (keptW d kn) l; have := h.len; omega
  rw [← hL.out] at CK
  have hWr : Hid (writeL l v d kn = insP L (part0 v d)) := by show _ = _; rw [writeL, hL.out]
  obtain ⟨c0, c1, c2, c3, c4⟩ := cell_row5 h4
  have HW1 := Lib.hid hw1
  have HS1 := Lib.hid hs1; have HB1 := Lib.hid hb1; have H4 := Lib.hid h4; have H5 := Lib.hid h5; have H6 := Lib.hid h6; have H8 := Lib.hid h8
  unfold wBoxes at hw1
  clear h hk h4 h5 h6 h7 h8 hs1 hb1 hL
  go_enter Try.func13, Try.ntmps13
  go_wp2_with fail
  rw [← hw1]
  clear hw1 c0 c1 c2 c3 c4
  refine CK.out.mono ?_
  rintro e w2 ⟨v', rfl, hown, b2⟩
  obtain ⟨A', c', rfl, hrd⟩ := RdG.own_ p11len (by omega) hown
  obtain ⟨N, hN⟩ : ∃ N, L.length = N := ⟨_, rfl⟩
  rw [hN] at hown hrd hlen ⊢
  obtain ⟨q, hq⟩ : ∃ q, Hid (place L d = q) := ⟨_, rfl⟩
  have hqN : q ≤ N := by rw [← hq.out, ← hN]; exact place_le L d
  have hB2 : Below w.heap.size w w2 := HB1.out.trans (b2.mono (by have := HS1.out; omega))
  have H4b := Lib.hid ((b2.block w.heap.size (by have := HS1.out; omega)).trans H4.out)
  have H5b := Lib.hid ((b2.block (w.heap.size + 1) (by have := HS1.out; omega)).trans H5.out)
  have H6b := Lib.hid ((b2.block (w.heap.size + 1 + 1) (by have := HS1.out; omega)).trans H6.out)
  have H8b := Lib.hid ((b2.block (w.heap.size + 1 + 1 + 1 + 1) (by have := HS1.out; omega)).trans H8.out)
  have hs2 : w1.heap.size ≤ w2.heap.size := b2.size
  have G := Lib.hid (show w.heap.size < w1.heap.size ∧ w.heap.size + 1 < w1.heap.size ∧ w.heap.size + 1 + 1 < w1.heap.size ∧ w.heap.size + 1 + 1 + 1 + 1 < w1.heap.size ∧ w.heap.size ≤ w.heap.size + 1 + 1 + 1 + 1 ∧ w.heap.size ≠ w.heap.size + 1 ∧ w.heap.size ≠ w.heap.size + 1 + 1 ∧ w.heap.size ≠ w.heap.size + 1 + 1 + 1 + 1 from by have := HS1.out; refine ⟨?_, ?_, ?_, ?_, ?_, ?_, ?_, ?_⟩ <;> omega)
  have HW := Lib.hid (show ∃ g, g = w.heap.size from ⟨_, rfl⟩)
  clear CK H4 H5 H6 H8 HW1 HS1 b2
  generalize w.heap.size + 1 + 1 + 1 + 1 = g8 at H8b G ⊢
  generalize w.heap.size + 1 + 1 + 1 = g7 at ⊢
  generalize w.heap.size + 1 + 1 = g6 at H6b G ⊢
  generalize w.heap.size + 1 = g5 at H5b G ⊢
  have hS0 : Below w.heap.size w w2 ∧ w1.heap.size ≤ w2.heap.size ∧ w2.cell? ⟨g6, 0, none⟩ = some (.int .i64 d.d) ∧ w2.cell? ⟨g6, 1, none⟩ = some (.int .i64 d.s) ∧ w2.cell? ⟨g5, 0, none⟩ = some (.int .i64 v.k) ∧ w2.cell? ⟨g5, 1, none⟩ = some (.int .i64 v.n) ∧ w2.cell? ⟨g5, 2, none⟩ = some (.string v.s) ∧ w2.heap[g8]? = some (cellRow 0 ⟨0, 0, ⟨#[]⟩⟩ (.slice none 0 0)) ∧ w2.cell? ⟨w.heap.size, 0, none⟩ = some (.int .i64 k) ∧ w2.cell? ⟨w.heap.size, 1, none⟩ = some (.int .i64 v0.k) ∧ w2.cell? ⟨w.heap.size, 2, none⟩ = some (.int .i64 v0.n) ∧ w2.cell? ⟨w.heap.size, 3, none⟩ = some (.string v0.s) ∧ w2.frozen? ⟨w.heap.size, 4, none⟩ = false ∧ ∃ u, w2.cell? ⟨w.heap.size, 4, none⟩ = some u := by
    obtain ⟨a0, a1, a2, a3, a4⟩ := cell_row5 H4b.out
    obtain ⟨b0, b1, b2⟩ := val_row H5b.out
    obtain ⟨e0, e1⟩ := dot_row H6b.out
    exact ⟨hB2, hs2, e0, e1, b0, b1, b2, H8b.out, a0, a1, a2, a3, frozen_row H4b.out 4, _, a4⟩
  have K : Hid (∀ W W' : World, (Below w.heap.size w W ∧ w1.heap.size ≤ W.heap.size ∧ W.cell? ⟨g6, 0, none⟩ = some (.int .i64 d.d) ∧ W.cell? ⟨g6, 1, none⟩ = some (.int .i64 d.s) ∧ W.cell? ⟨g5, 0, none⟩ = some (.int .i64 v.k) ∧ W.cell? ⟨g5, 1, none⟩ = some (.int .i64 v.n) ∧ W.cell? ⟨g5, 2, none⟩ = some (.string v.s) ∧ W.heap[g8]? = some (cellRow 0 ⟨0, 0, ⟨#[]⟩⟩ (.slice none 0 0)) ∧ W.cell? ⟨w.heap.size, 0, none⟩ = some (.int .i64 k) ∧ W.cell? ⟨w.heap.size, 1, none⟩ = some (.int .i64 v0.k) ∧ W.cell? ⟨w.heap.size, 2, none⟩ = some (.int .i64 v0.n) ∧ W.cell? ⟨w.heap.size, 3, none⟩ = some (.string v0.s) ∧ W.frozen? ⟨w.heap.size, 4, none⟩ = false ∧ ∃ u, W.cell? ⟨w.heap.size, 4, none⟩ = some u) → Below w1.heap.size W W' → (Below w.heap.size w W' ∧ w1.heap.size ≤ W'.heap.size ∧ W'.cell? ⟨g6, 0, none⟩ = some (.int .i64 d.d) ∧ W'.cell? ⟨g6, 1, none⟩ = some (.int .i64 d.s) ∧ W'.cell? ⟨g5, 0, none⟩ = some (.int .i64 v.k) ∧ W'.cell? ⟨g5, 1, none⟩ = some (.int .i64 v.n) ∧ W'.cell? ⟨g5, 2, none⟩ = some (.string v.s) ∧ W'.heap[g8]? = some (cellRow 0 ⟨0, 0, ⟨#[]⟩⟩ (.slice none 0 0)) ∧ W'.cell? ⟨w.heap.size, 0, none⟩ = some (.int .i64 k) ∧ W'.cell? ⟨w.heap.size, 1, none⟩ = some (.int .i64 v0.k) ∧ W'.cell? ⟨w.heap.size, 2, none⟩ = some (.int .i64 v0.n) ∧ W'.cell? ⟨w.heap.size, 3, none⟩ = some (.string v0.s) ∧ W'.frozen? ⟨w.heap.size, 4, none⟩ = false ∧ ∃ u, W'.cell? ⟨w.heap.size, 4, none⟩ = some u)) := by
    rintro W W' ⟨k0, k1, k2, k3, k4, k5, k6, k7, k8, k9, k10, k11, k12, u, k13⟩ hb
    obtain ⟨l1, l2, l3, l4, _⟩ := G.out
    have hc : ∀ (b j : Nat) (x : Value), b < w1.heap.size → W.cell? ⟨b, j, none⟩ = some x → W'.cell? ⟨b, j, none⟩ = some x := fun b j x h1 h2 => (hb.cell (p := ⟨b, j, none⟩) h1).trans h2
    refine ⟨k0.trans (hb.mono (by omega)), Nat.le_trans k1 hb.size, hc _ _ _ l3 k2, hc _ _ _ l3 k3, hc _ _ _ l2 k4, hc _ _ _ l2 k5, hc _ _ _ l2 k6, (hb.block g8 l4).trans k7, hc _ _ _ l1 k8, hc _ _ _ l1 k9, hc _ _ _ l1 k10, hc _ _ _ l1 k11, ?_, u, hc _ _ _ l1 k13⟩
    simp only [World.frozen?, hb.block w.heap.size l1] at k12 ⊢
    exact k12
  have K2 : Hid (∀ (W : World) (x : Value), (Below w.heap.size w W ∧ w1.heap.size ≤ W.heap.size ∧ W.cell? ⟨g6, 0, none⟩ = some (.int .i64 d.d) ∧ W.cell? ⟨g6, 1, none⟩ = some (.int .i64 d.s) ∧ W.cell? ⟨g5, 0, none⟩ = some (.int .i64 v.k) ∧ W.cell? ⟨g5, 1, none⟩ = some (.int .i64 v.n) ∧ W.cell? ⟨g5, 2, none⟩ = some (.string v.s) ∧ W.heap[g8]? = some (cellRow 0 ⟨0, 0, ⟨#[]⟩⟩ (.slice none 0 0)) ∧ W.cell? ⟨w.heap.size, 0, none⟩ = some (.int .i64 k) ∧ W.cell? ⟨w.heap.size, 1, none⟩ = some (.int .i64 v0.k) ∧ W.cell? ⟨w.heap.size, 2, none⟩ = some (.int .i64 v0.n) ∧ W.cell? ⟨w.heap.size, 3, none⟩ = some (.string v0.s) ∧ W.frozen? ⟨w.heap.size, 4, none⟩ = false ∧ ∃ u, W.cell? ⟨w.heap.size, 4, none⟩ = some u) → (Below w.heap.size w (W.setCell ⟨w.heap.size, 4, none⟩ x) ∧ w1.heap.size ≤ (W.setCell ⟨w.heap.size, 4, none⟩ x).heap.size ∧ (W.setCell ⟨w.heap.size, 4, none⟩ x).cell? ⟨g6, 0, none⟩ = some (.int .i64 d.d) ∧ (W.setCell ⟨w.heap.size, 4, none⟩ x).cell? ⟨g6, 1, none⟩ = some (.int .i64 d.s) ∧ (W.setCell ⟨w.heap.size, 4, none⟩ x).cell? ⟨g5, 0, none⟩ = some (.int .i64 v.k) ∧ (W.setCell ⟨w.heap.size, 4, none⟩ x).cell? ⟨g5, 1, none⟩ = some (.int .i64 v.n) ∧ (W.setCell ⟨w.heap.size, 4, none⟩ x).cell? ⟨g5, 2, none⟩ = some (.string v.s) ∧ (W.setCell ⟨w.heap.size, 4, none⟩ x).heap[g8]? = some (cellRow 0 ⟨0, 0, ⟨#[]⟩⟩ (.slice none 0 0)) ∧ (W.setCell ⟨w.heap.size, 4, none⟩ x).cell? ⟨w.heap.size, 0, none⟩ = some (.int .i64 k) ∧ (W.setCell ⟨w.heap.size, 4, none⟩ x).cell? ⟨w.heap.size, 1, none⟩ = some (.int .i64 v0.k) ∧ (W.setCell ⟨w.heap.size, 4, none⟩ x).cell? ⟨w.heap.size, 2, none⟩ = some (.int .i64 v0.n) ∧ (W.setCell ⟨w.heap.size, 4, none⟩ x).cell? ⟨w.heap.size, 3, none⟩ = some (.string v0.s) ∧ (W.setCell ⟨w.heap.size, 4, none⟩ x).frozen? ⟨w.heap.size, 4, none⟩ = false ∧ ∃ u, (W.setCell ⟨w.heap.size, 4, none⟩ x).cell? ⟨w.heap.size, 4, none⟩ = some u)) := by
    rintro W x ⟨k0, k1, k2, k3, k4, k5, k6, k7, k8, k9, k10, k11, k12, u, k13⟩
    obtain ⟨l1, l2, l3, l4, _, l5, l6, l7⟩ := G.out
    have hc : ∀ (b j : Nat) (y : Value), (b ≠ w.heap.size ∨ j ≠ 4) → W.cell? ⟨b, j, none⟩ = some y → (W.setCell ⟨w.heap.size, 4, none⟩ x).cell? ⟨b, j, none⟩ = some y := fun b j y h1 h2 => by
      rw [World.cell?_setCell_other _ _ _ _ (by intro e; simp only [Addr.mk.injEq] at e; omega)]; exact h2
    refine ⟨k0.setCell (Nat.le_refl _) x, by rw [World.size_setCell]; exact k1, hc _ _ _ (.inl (by omega)) k2, hc _ _ _ (.inl (by omega)) k3, hc _ _ _ (.inl (by omega)) k4, hc _ _ _ (.inl (by omega)) k5, hc _ _ _ (.inl (by omega)) k6, ?_, hc _ _ _ (.inr (by omega)) k8, hc _ _ _ (.inr (by omega)) k9, hc _ _ _ (.inr (by omega)) k10, hc _ _ _ (.inr (by omega)) k11, by rw [World.frozen?_setCell]; exact k12, x, World.cell?_setCell_same _ _ _ k13⟩
    rw [← k7]
    show (W.heap.modify w.heap.size _)[g8]? = _
    rw [Array.getElem?_modify, if_neg (by omega)]
  have PL : Hid (∀ W, Below w2.heap.size w2 W → Calls Try.prog 42 #[.slice A' N c', .agg #[.int .i64 d.d, .int .i64 d.s]] W fun e w' => e = .returned (.int .i64 (q : Int)) ∧ Below W.heap.size W w' ∧ Below w1.heap.size W w') := by
    intro W hW
    have := place_any A' N c' L d W (hrd.below hW)
    rw [hq.out] at this
    exact this.mono fun e w' ⟨he, hb⟩ => ⟨he, hb, hb.mono (Nat.le_trans hs2 hW.size)⟩
  have INS : Hid (∀ W W2, Below w2.heap.size w2 W → Below (W.alloc (partCells (part0 v d))).heap.size (W.alloc (partCells (part0 v d))) W2 → Calls Try.prog 41 #[.slice A' N c', .int .i64 (q : Int), .slice (some ⟨W.heap.size, 0, none⟩) 1 1] W2 fun e w' =>
      ∃ A3 c3, e = .returned (.slice A3 (N + 1 : Nat) c3) ∧ w'.ownsRow w1.heap.size 30 11 (.slice A3 (N + 1) c3) (N + 1) ((insP L (part0 v d)).flatMap P11.cells) ∧ Below w1.heap.size W2 w') := by
    intro W W2 hW hW2
    have ho := own_below hown hW
    have ho2 := own_below (ho.alloc (partCells (part0 v d))) hW2
    have hx := row_below (heap_alloc_new W (partCells (part0 v d))) hW2
    have hsz : w1.heap.size ≤ W2.heap.size := by have := hW2.size; have := hW.size; simp at *; omega
    have := insert_any w1.heap.size N c' q W.heap.size A' L (part0 v d) W2 hqN hlen ho2 hx hsz (fun kk hkk => by have := (ho.lt kk hkk).2; omega)
    rw [insP_place, show (part0 v d).d = d from rfl, hq.out]
    refine this.mono ?_
    rintro e w' ⟨v3, rfl, h2, h3, _⟩
    obtain ⟨A3, c3, rfl, _⟩ := RdG.own_ (l := L.take q ++ part0 v d :: L.drop q) p11len (by omega) h2
    exact ⟨A3, c3, rfl, h2, h3⟩
  clear hown hrd hB2 H4b H5b H6b H8b HW HB1
  go_wp2_with fail
  go_region_held3 (fun W => Below w.heap.size w W ∧ w1.heap.size ≤ W.heap.size ∧ W.cell? ⟨g6, 0, none⟩ = some (.int .i64 d.d) ∧ W.cell? ⟨g6, 1, none⟩ = some (.int .i64 d.s) ∧ W.cell? ⟨g5, 0, none⟩ = some (.int .i64 v.k) ∧ W.cell? ⟨g5, 1, none⟩ = some (.int .i64 v.n) ∧ W.cell? ⟨g5, 2, none⟩ = some (.string v.s) ∧ W.heap[g8]? = some (cellRow 0 ⟨0, 0, ⟨#[]⟩⟩ (.slice none 0 0)) ∧ W.cell? ⟨w.heap.size, 0, none⟩ = some (.int .i64 k) ∧ W.cell? ⟨w.heap.size, 1, none⟩ = some (.int .i64 v0.k) ∧ W.cell? ⟨w.heap.size, 2, none⟩ = some (.int .i64 v0.n) ∧ W.cell? ⟨w.heap.size, 3, none⟩ = some (.string v0.s) ∧ W.frozen? ⟨w.heap.size, 4, none⟩ = false ∧ ∃ u, W.cell? ⟨w.heap.size, 4, none⟩ = some u)
    (first
      | exact K.out _ _ hS0 ((Below.refl _ _).drew)
      | exact K.out _ _ (by assumption) bb
      | exact K.out _ _ (by assumption) (Below.alloc (Below.refl _ _) (by go_split_ands; assumption) _)
      | exact K.out _ _ hS0 ((Below.alloc (Below.refl _ _) hs2 _).drew)
      | exact K2.out _ _ (by assumption))
    (first
      | (go_at_call 42; refine (PL.out _ (by first | exact (Below.refl _ _).drew | exact (below_new (Below.refl _ _) _).drew)).mono ?_; rintro e wx ⟨rfl, bx, bb⟩)
      | (go_at_call 41; refine (INS.out _ _ (by first | exact Below.refl _ _ | exact ((Below.refl _ _).drew).trans bx) (by first | exact Below.refl _ _ | exact ((Below.refl _ _).drew).trans bx)).mono ?_; rintro e wy ⟨A3, c3, rfl, hown2, bb⟩; have hSy := K.out _ _ (by assumption) bb; obtain ⟨_, _, _, _, _, _, _, _, _, _, _, _, hfz, u, hu⟩ := hSy))
  all_goals
    have hSz : Below w.heap.size w (wy.setCell ⟨w.heap.size, 4, none⟩ (.slice A3 (N + 1) c3)) ∧ w1.heap.size ≤ (wy.setCell ⟨w.heap.size, 4, none⟩ (.slice A3 (N + 1) c3)).heap.size ∧ (wy.setCell ⟨w.heap.size, 4, none⟩ (.slice A3 (N + 1) c3)).cell? ⟨g6, 0, none⟩ = some (.int .i64 d.d) ∧ (wy.setCell ⟨w.heap.size, 4, none⟩ (.slice A3 (N + 1) c3)).cell? ⟨g6, 1, none⟩ = some (.int .i64 d.s) ∧ (wy.setCell ⟨w.heap.size, 4, none⟩ (.slice A3 (N + 1) c3)).cell? ⟨g5, 0, none⟩ = some (.int .i64 v.k) ∧ (wy.setCell ⟨w.heap.size, 4, none⟩ (.slice A3 (N + 1) c3)).cell? ⟨g5, 1, none⟩ = some (.int .i64 v.n) ∧ (wy.setCell ⟨w.heap.size, 4, none⟩ (.slice A3 (N + 1) c3)).cell? ⟨g5, 2, none⟩ = some (.string v.s) ∧ (wy.setCell ⟨w.heap.size, 4, none⟩ (.slice A3 (N + 1) c3)).heap[g8]? = some (cellRow 0 ⟨0, 0, ⟨#[]⟩⟩ (.slice none 0 0)) ∧ (wy.setCell ⟨w.heap.size, 4, none⟩ (.slice A3 (N + 1) c3)).cell? ⟨w.heap.size, 0, none⟩ = some (.int .i64 k) ∧ (wy.setCell ⟨w.heap.size, 4, none⟩ (.slice A3 (N + 1) c3)).cell? ⟨w.heap.size, 1, none⟩ = some (.int .i64 v0.k) ∧ (wy.setCell ⟨w.heap.size, 4, none⟩ (.slice A3 (N + 1) c3)).cell? ⟨w.heap.size, 2, none⟩ = some (.int .i64 v0.n) ∧ (wy.setCell ⟨w.heap.size, 4, none⟩ (.slice A3 (N + 1) c3)).cell? ⟨w.heap.size, 3, none⟩ = some (.string v0.s) ∧ (wy.setCell ⟨w.heap.size, 4, none⟩ (.slice A3 (N + 1) c3)).frozen? ⟨w.heap.size, 4, none⟩ = false ∧ ∃ u, (wy.setCell ⟨w.heap.size, 4, none⟩ (.slice A3 (N + 1) c3)).cell? ⟨w.heap.size, 4, none⟩ = some u := by assumption
    have c4 := World.cell?_setCell_same wy ⟨w.heap.size, 4, none⟩ (.slice A3 (N + 1) c3) hu
    have hown3 := own_set hown2 w.heap.size 4 (.slice A3 (N + 1) c3) G.out.1
    clear hu hfz hown2 bx bb hS0
    generalize wy.setCell ⟨w.heap.size, 4, none⟩ (.slice A3 (N + 1) c3) = wz at hSz c4 hown3 ⊢
    obtain ⟨k0, k1, _, _, _, _, _, k7, c0, c1, c2, c3', _, _⟩ := hSz
    obtain ⟨r0, r1, r2, r3, r4⟩ := cell_row5 k7
    have f0 := frozen_row k7
    have HK7 := Lib.hid k7; have HK0 := Lib.hid k0
    clear k7 k0
    go_wp2_with fail
    refine bodyPost_ret (v := cellV k v0 (.slice A3 (N + 1) c3)) (results_cell_row rfl _ _ g8 26 _ (0, 0) _ rfl (set5 HK7.out) Try.underlying26 rfl (by kernel_rfl)) rfl ?_
    have hg8 := G.out.2.2.2.1
    have hg9 := G.out.2.2.2.2.1
    have hl : (writeL l v d kn).length = N + 1 := by rw [hWr.out, insP_len, hN]
    have hown4 := own_set (own_set (own_set (own_set (own_set hown3 g8 0 (.int .i64 k) hg8) g8 1 (.int .i64 v0.k) hg8) g8 2 (.int .i64 v0.n) hg8) g8 3 (.string v0.s) hg8) g8 4 (.slice A3 (N + 1) c3) hg8
    obtain ⟨A4, c4', hv4, hrd4⟩ := RdG.own_ p11len (by omega) hown4
    injection hv4 with e1 e2 e3
    subst e1 e3
    rw [hl, hWr.out]
    exact ⟨A3, c3, rfl, hrd4, ((((HK0.out.setCell hg9 _).setCell hg9 _).setCell hg9 _).setCell hg9 _).setCell hg9 _⟩
end Go.Proofs.Ytomdbjmbkfdcmaa

namespace Go.Proofs.Ytomdbjmbkfdcmaa
set_option maxRecDepth 100000
open Go.RowKit

theorem dotIn_next {l : List P11} {k : Nat} {x : P11} (hx : l[k]? = some x) : (fun d => dotIn (l.take k) d || decide (d = x.d)) = dotIn (l.take (k + 1)) := by
  funext d
  rw [List.take_add_one, hx]
  simp only [dotIn, List.any_append]
  simp [eq_comm]

set_option maxHeartbeats 1600000 in
theorem dots_any (A : Option Addr) (n c : Nat) (l : List P11) (w : World) (h : RdP w A n c l) :
    Calls Try.prog 73 #[.slice A n c] w fun e w' => ∃ g, e = .returned (.map (some g)) ∧ w.heap.size ≤ g ∧ MapD w' g (dotIn l) ∧ Below w.heap.size w w' := by
  have hl := h.len
  have hle := h.le
  have HRD := Lib.hid h; have HL := Lib.hid hl
  clear h hl
  have hM0 : Hid (MapD (w.alloc (.map #[] 0)) w.heap.size (dotIn (l.take 0))) := ⟨#[], 0, heap_alloc_new _ _, by simp, by simp [dotIn]⟩
  have hmm : ∀ (z : Int) (W : World), (Instr.makeMap 104 (some (.int .i64 z))).run Try.prog W = .ok (.map (some W.heap.size)) (W.alloc (.map #[] 0)) := fun z W => by
    unfold Instr.makeMap
    simp only [Sem.run_bind, run_underlying Try.underlying104, Result.andThen_ok]
    rfl
  go_enter Try.func73, Try.ntmps73
  go_wp2_with fail
  go_loopw [11] (fun i wr => ∃ k : Nat, k ≤ n ∧ i = .int .i64 k ∧ Hid (MapD wr w.heap.size (dotIn (l.take k))) ∧ Below w.heap.size w wr) (fun i _ => n - (intOf i).toNat)
  case atStart => exact ⟨0, Nat.zero_le _, rfl, hM0, below_new (Below.refl _ _) _⟩
  case round =>
    clear hM0
    obtain ⟨k, hk, rfl, hM, hbel⟩ := hrel
    by_cases hlt : k < n
    · obtain ⟨b, o, x, rfl, hb, hx, hld⟩ := HRD.out.part hlt
      obtain ⟨c0, c1, c2, c3, c4, c5, c6, c7, c8, c9, c10⟩ := hld _ hbel
      have hnew := heap_alloc_new wr (partCells x)
      obtain ⟨w2, hput, hm2, hb2, hsz2⟩ := run_put_dot (hM.out.below (below_new (Below.refl _ _) (partCells x))) x.d
      have HM2 : Hid (MapD w2 w.heap.size (dotIn (l.take (k + 1)))) := by show MapD _ _ _; rw [← dotIn_next hx]; exact hm2
      have HB2 := Lib.hid ((below_new hbel (partCells x)).trans hb2)
      clear hld hx hM hm2 hb2 hsz2 hbel hnew
      go_wp2_with fail
      exact ⟨⟨k + 1, by omega, by go_num, HM2, HB2.out⟩, by simp [intOf]; omega⟩
    · have hfin : Hid (MapD wr w.heap.size (dotIn l)) := by
        have h1 := HL.out
        have h2 := hM.out
        rw [List.take_of_length_le (by omega)] at h2
        exact h2
      go_wp2
      go_ret
      exact ⟨_, rfl, Nat.le_refl _, hfin.out, hbel⟩
end Go.Proofs.Ytomdbjmbkfdcmaa

namespace Go.Proofs.Ytomdbjmbkfdcmaa
set_option maxRecDepth 100000
open Go.RowKit Go.Sort Srt

theorem cmp3 (blk off n : Nat) (w0 : World) : CmpK Try.prog 76 #[] P11.cells 11 ltP blk off n w0 :=
  ⟨fun x y => cmpD x.d y.d, fun _ _ => cmpD_lt _ _, fun _ W _ _ x y => join3_any x y W⟩

theorem own_sw {w : World} {base g n cap : Nat} {l : List P11} (h : w.ownsRow base 30 11 (.slice (some ⟨g, 0, none⟩) n cap) n (l.flatMap P11.cells)) : SwK P11.cells 11 w g 0 l w where
  os := rfl
  tape := rfl
  output := rfl
  size := Nat.le_refl _
  lt := (h.lt g rfl).2
  block := fun _ _ _ => rfl
  cell := fun j x hx i v hv => by
    obtain ⟨A, c, hv2, hrd⟩ := RdG.own_ p11len (by omega) h
    injection hv2 with e1 e2 e3
    subst e1 e3
    obtain ⟨hj, e⟩ := List.getElem?_eq_some_iff.1 hx
    obtain ⟨hl, _, _, hq⟩ := hrd
    obtain ⟨b, o, e2, _, hc⟩ := hq (by omega)
    injection e2 with e2
    injection e2 with e3 e4
    subst e3 e4
    exact hc j hj i v (by rw [e]; exact hv)
  frozen := fun j _ => by
    rcases h.2 with ⟨hv, _⟩ | ⟨b, cap', cur, hv, _, hh, _⟩
    · injection hv with e1; cases e1
    · injection hv with e1 e2 e3
      injection e1 with e1
      injection e1 with e1
      subst e1
      exact frozen_row hh _

set_option maxHeartbeats 1600000 in
theorem insNil (w : World) : Calls Try.prog 101 #[.slice none 0 0, .int .i64 0, .int .i64 0, .func (.func 76) #[] #[]] w fun e w' => e = .returned (.tuple #[]) ∧ w' = w := by
  go_enter Try.func101, Try.ntmps101
  go_wp2_with fail
  go_loopw [8] (fun v wr => v = .int .i64 1 ∧ wr = w) (fun _ _ => 0)
  case atStart => exact ⟨rfl, rfl⟩
  case round =>
    obtain ⟨rfl, rfl⟩ := hrel
    go_wp2
    go_end0
    exact ⟨rfl, rfl⟩

set_option maxHeartbeats 1600000 in
theorem stableNil (w : World) : Calls Try.prog 90 #[.slice none 0 0, .int .i64 0, .func (.func 76) #[] #[]] w fun e w' => e = .returned (.tuple #[]) ∧ w' = w := by
  have C := Lib.hid (insNil w)
  go_enter Try.func90, Try.ntmps90
  go_wp2_with fail
  go_loopw [7, 8] (fun v u wr => v = .int .i64 0 ∧ u = .int .i64 20 ∧ wr = w) (fun _ _ _ => 0)
  case atStart => exact ⟨rfl, rfl, rfl⟩
  case round =>
    obtain ⟨rfl, rfl, rfl⟩ := hrel
    go_wp2_with (go_at_call 101; refine C.out.mono ?_; rintro e w' ⟨rfl, rfl⟩)
    go_loopw [6] (fun v wr => v = .int .i64 20 ∧ wr = w') (fun _ _ => 0)
    case atStart => exact ⟨rfl, rfl⟩
    case round =>
      obtain ⟨rfl, rfl⟩ := hrel
      go_wp2
      go_end0
      exact ⟨rfl, rfl⟩

theorem sortNil (w : World) : Calls Try.prog 53 #[.slice none 0 0, .func (.func 76) #[] #[]] w fun e w' => e = .returned (.tuple #[]) ∧ w' = w := by
  have C := Lib.hid (stableNil w)
  go_enter Try.func53, Try.ntmps53
  go_wp2_with (go_at_call 90; refine C.out.mono ?_; rintro e w' ⟨rfl, rfl⟩)
  go_end0
  exact ⟨rfl, rfl⟩

/-- behind the sort the row reads so, and nothing else has turned -/
theorem sortP_any (base n : Nat) (v : Value) (l : List P11) (w w0 : World) (hn : n ≤ 4294967296) (h : w.ownsRow base 30 11 v n (l.flatMap P11.cells)) (hb : Below base w0 w) :
    Calls Try.prog 53 #[v, .func (.func 76) #[] #[]] w fun e w' => e = .returned (.tuple #[]) ∧ Below base w0 w' ∧ w.heap.size ≤ w'.heap.size ∧ ∃ A c, v = .slice A n c ∧ RdP w' A n c (isort ltP l) := by
  have hl : l.length = n := by
    have := h.1
    rw [flat_len p11len] at this
    omega
  rcases h.2 with ⟨rfl, rfl⟩ | ⟨g, cap, cur, rfl, hbg, hh, hnc, hcm, _, _⟩
  · have he : l = [] := List.eq_nil_of_length_eq_zero hl
    subst he
    refine (sortNil w).mono ?_
    rintro e w' ⟨rfl, rfl⟩
    exact ⟨rfl, hb, Nat.le_refl _, none, 0, rfl, RdG.nil_ _⟩
  · refine (sortStableK_any weakP layK encP 76 #[] g 0 cap n l w w Try.egJoin3 (cmp3 g 0 n w) (by omega) hl (own_sw h)).mono ?_
    rintro e w' ⟨rfl, hs⟩
    refine ⟨rfl, ?_, hs.size, _, _, rfl, ⟨by rw [isort_len, hl], hnc, hcm, fun _ => ⟨g, 0, rfl, hs.lt, fun j hj i x hx => ?_⟩⟩⟩
    · exact ⟨hs.os.trans hb.os, hs.tape.trans hb.tape, hs.output.trans hb.output, Nat.le_trans hb.size hs.size, fun k hk => by
        by_cases hkw : k < w.heap.size
        · exact (hs.block k hkw (by omega)).trans (hb.block k hk)
        · have := (Array.getElem?_eq_some_iff.1 hh).1; omega⟩
    · exact hs.cell j _ (List.getElem?_eq_getElem hj) i x hx

/-- what reads as parts, put behind a row of parts of the call's own -/
theorem run_appP {w W0 : World} (base : Nat) (v : Value) (n : Nat) (l : List P11) (A : Option Addr) (m c : Nat) (news : List P11)
    (hown : w.ownsRow base 30 11 v n (l.flatMap P11.cells)) (hrd : RdP w A m c news) (hn : n + m ≤ 4294967296) (hbel : Below base W0 w) (hbase : base ≤ w.heap.size) (ty : TypeId) :
    ∃ v' w', (Builtin.append_ #[24, 24] ty #[v, .slice A m c]).run Try.prog w = .ok v' w' ∧ w'.ownsRow base 30 11 v' (n + m) ((l ++ news).flatMap P11.cells) ∧ Below base W0 w' ∧ base ≤ w'.heap.size := by
  obtain ⟨i0, hi0, hz0, hz1, hz2⟩ := info_parts Try.infoPart
  by_cases hm : m = 0
  · subst hm
    have he : news = [] := List.eq_nil_of_length_eq_zero hrd.len
    subst he
    refine ⟨v, w, ?_, by simpa using hown, hbel, hbase⟩
    rcases hown.2 with ⟨rfl, rfl⟩ | ⟨g, cap, cur, rfl, _, _, hnc, _⟩
    · exact run_append_zero w 24 ty 30 i0 Try.underlying24 hi0 _ _ _ _ _ (Nat.le_refl _)
    · exact run_append_zero w 24 ty 30 i0 Try.underlying24 hi0 _ _ _ _ _ hnc
  · obtain ⟨b, o, rfl, hb⟩ := hrd.hsize (by omega)
    obtain ⟨v', w', hr, hown', hgrow, _⟩ := run_append_own (P := Try.prog) w base 24 ty 30 i0 _ 11 96 Try.underlying24 hi0 hz0 hz1 hz2 rfl (by omega) v n (l.flatMap P11.cells) hown ⟨b, o, none⟩ m c (news.flatMap P11.cells) (by rw [flat_len p11len, hrd.len]) (rdg_cells p11len hrd)
      (fun u hu => by rw [List.mem_flatMap] at hu; obtain ⟨p, _, hp⟩ := hu; exact p11one p u hp) (by simp only [maxLen]; omega) (by omega) hbase
    exact ⟨v', w', hr, by rw [List.flatMap_append]; exact hown', hbel.grown hgrow hbase (fun k hk => (hown.lt k hk).1), by have := hgrow.size; omega⟩
end Go.Proofs.Ytomdbjmbkfdcmaa

namespace Go.Proofs.Ytomdbjmbkfdcmaa
set_option maxRecDepth 100000
open Go.RowKit Srt

/-- the boxes of a call of Join -/
def jBoxes (ka : Int) (va : V3) (sa : Value) (kb : Int) (vb : V3) (sb : Value) (B : Option Addr) (m cc : Nat) (D : Option Addr) (p pc : Nat) (w : World) : World :=
  ((((w.alloc (cellRow ka va sa)).alloc (cellRow kb vb sb)).alloc (vecBox B m cc)).alloc (vecBox D p pc)).alloc (cellRow 0 ⟨0, 0, ⟨#[]⟩⟩ (.slice none 0 0))

theorem jBoxes_is (ka : Int) (va : V3) (sa : Value) (kb : Int) (vb : V3) (sb : Value) (B : Option Addr) (m cc : Nat) (D : Option Addr) (p pc : Nat) (w : World) :
    (jBoxes ka va sa kb vb sb B m cc D p pc w).heap.size = w.heap.size + 5 ∧ Below w.heap.size w (jBoxes ka va sa kb vb sb B m cc D p pc w)
    ∧ (jBoxes ka va sa kb vb sb B m cc D p pc w).heap[w.heap.size]? = some (cellRow ka va sa) ∧ (jBoxes ka va sa kb vb sb B m cc D p pc w).heap[w.heap.size + 1]? = some (cellRow kb vb sb) ∧ (jBoxes ka va sa kb vb sb B m cc D p pc w).heap[w.heap.size + 1 + 1]? = some (vecBox B m cc)
    ∧ (jBoxes ka va sa kb vb sb B m cc D p pc w).heap[w.heap.size + 1 + 1 + 1]? = some (vecBox D p pc) ∧ (jBoxes ka va sa kb vb sb B m cc D p pc w).heap[w.heap.size + 1 + 1 + 1 + 1]? = some (cellRow 0 ⟨0, 0, ⟨#[]⟩⟩ (.slice none 0 0)) := by
  have hat : ∀ (w : World) (o : Obj) (g : Nat), w.heap.size = g → (w.alloc o).heap[g]? = some o := fun w o g h => by subst h; exact heap_alloc_new _ _
  refine ⟨by simp [jBoxes], ?_, ?_, ?_, ?_, ?_, ?_⟩
  · exact below_new (below_new (below_new (below_new (below_new (Below.refl _ _) _) _) _) _) _
  · rw [jBoxes, Below.heap_alloc _ _ _ (by simp only [World.size_alloc]; omega), Below.heap_alloc _ _ _ (by simp only [World.size_alloc]; omega), Below.heap_alloc _ _ _ (by simp only [World.size_alloc]; omega), Below.heap_alloc _ _ _ (by simp only [World.size_alloc]; omega)]; exact hat _ _ _ rfl
  · rw [jBoxes, Below.heap_alloc _ _ _ (by simp only [World.size_alloc]; omega), Below.heap_alloc _ _ _ (by simp only [World.size_alloc]; omega), Below.heap_alloc _ _ _ (by simp only [World.size_alloc]; omega)]; exact hat _ _ _ (by simp)
  · rw [jBoxes, Below.heap_alloc _ _ _ (by simp only [World.size_alloc]; omega), Below.heap_alloc _ _ _ (by simp only [World.size_alloc]; omega)]; exact hat _ _ _ (by simp)
  · rw [jBoxes, Below.heap_alloc _ _ _ (by simp)]; exact hat _ _ _ (by simp)
  · exact hat _ _ _ (by simp)

theorem MapD.alloc {w : World} {g : Nat} {ds : D2 → Bool} (h : MapD w g ds) (o : Obj) : MapD (w.alloc o) g ds := h.below (below_new (Below.refl _ _) _)
theorem MapD.drew_ {w : World} {g : Nat} {ds : D2 → Bool} (h : MapD w g ds) : MapD w.drew g ds := h.below (Below.refl _ _).drew
theorem MapD.setCell {w : World} {g : Nat} {ds : D2 → Bool} (h : MapD w g ds) (b j : Nat) (v : Value) (hne : g ≠ b) : MapD (w.setCell ⟨b, j, none⟩ v) g ds := by
  obtain ⟨es, clock, hb, h1, h2⟩ := h
  refine ⟨es, clock, ?_, h1, h2⟩
  rw [← hb]
  show (w.heap.modify b _)[g]? = _
  rw [Array.getElem?_modify, if_neg (fun e => hne e.symm)]

theorem at_world {K : Act → World → Prop} {Q : Exit → Act → World → Prop} {a : Act} {Z : World} (i j : Nat) {g h : Nat} (_hi : a.tmps.getD i undef = .pointer (some ⟨g, 0, none⟩)) (_hj : a.tmps.getD j undef = .pointer (some ⟨h, 0, none⟩)) (F : Nat → Nat → World → Prop)
    (h1 : F g h Z) (h2 : ∀ Z', F g h Z' → Exit.then K Q .normal a Z') : Exit.then K Q .normal a Z := h2 Z h1

theorem rdg_set {α : Type} {enc : α → List Value} {sz : Nat} {w : World} {A : Option Addr} {n c : Nat} {l : List α} (h : RdG enc sz w A n c l) (g : Nat) (hA : ∀ a, A = some a → a.block ≠ g) (j : Nat) (x : Value) : RdG enc sz (w.setCell ⟨g, j, none⟩ x) A n c l := by
  obtain ⟨hl, h1, h2, hx⟩ := h
  refine ⟨hl, h1, h2, fun h0 => ?_⟩
  obtain ⟨b, o, rfl, hb, hc⟩ := hx h0
  refine ⟨b, o, rfl, by rw [World.size_setCell]; exact hb, fun k hk i v hv => ?_⟩
  rw [World.cell?_setCell_other _ _ _ _ (by intro e; have e2 := congrArg Addr.block e; exact hA _ rfl e2.symm)]
  exact hc k hk i v hv

theorem cell_drew_ (w : World) (a : Addr) : w.drew.cell? a = w.cell? a := rfl

abbrev mapBox : Obj := .cells #[.map none] 104

/-- what dots says, told for the region in which it is called twice -/
theorem dots_told (A : Option Addr) (n c : Nat) (l : List P11) (w1 : World) (h : RdP w1 A n c l) : ∀ W, Below w1.heap.size w1 W →
    Calls Try.prog 73 #[.slice A n c] W fun e w' => ∃ g, e = .returned (.map (some g)) ∧ W.heap.size ≤ g ∧ MapD w' g (dotIn l) ∧ Below W.heap.size W w' ∧ Below w1.heap.size w1 w'
      ∧ (∀ b j, b < W.heap.size → w'.cell? ⟨b, j, none⟩ = W.cell? ⟨b, j, none⟩) ∧ (∀ b j, b < W.heap.size → w'.frozen? ⟨b, j, none⟩ = W.frozen? ⟨b, j, none⟩) ∧ W.heap.size ≤ w'.heap.size := by
  intro W hW
  refine (dots_any A n c l W (h.below hW)).mono ?_
  rintro e w' ⟨g, rfl, hg, hm, hb⟩
  refine ⟨g, rfl, hg, hm, hb, below_then hW hb, fun b j h => hb.cell (p := ⟨b, j, none⟩) h, fun b j h => ?_, hb.size⟩
  simp only [World.frozen?, hb.block b h]

set_option maxHeartbeats 6400000 in
theorem join_any (ka : Int) (va : V3) (A : Option Addr) (n c : Nat) (la : List P11) (kb : Int) (vb : V3) (B : Option Addr) (m d : Nat) (lb : List P11) (C : Option Addr) (p pc : Nat) (na : List Int) (D : Option Addr) (q qc : Nat) (nb : List Int) (w : World)
    (ha : RdP w A n c la) (hb : RdP w B m d lb) (hn : n + m ≤ 4294967295) (hka : Rd w C p pc (vals .i64 na)) (hkb : Rd w D q qc (vals .i64 nb)) :
    Calls Try.prog 34 #[cellV ka va (.slice A n c), cellV kb vb (.slice B m d), .slice C p pc, .slice D q qc] w fun e w' =>
      ∃ A' c', e = .returned (cellV 1 ⟨0, 0, ⟨#[]⟩⟩ (.slice A' (joinL la lb na nb).length c')) ∧ RdP w' A' (joinL la lb na nb).length c' (joinL la lb na nb) ∧ Below w.heap.size w w' := by
  obtain ⟨w1, hw1⟩ : ∃ w1, w1 = jBoxes ka va (.slice A n c) kb vb (.slice B m d) C p pc D q qc w := ⟨_, rfl⟩
  obtain ⟨hs1, hb1, h4, h5, h6, h7, h8⟩ := jBoxes_is ka va (.slice A n c) kb vb (.slice B m d) C p pc D q qc w
  rw [← hw1] at hs1 hb1 h4 h5 h6 h7 h8
  have PA := Lib.hid (dots_told A n c la w1 (ha.below hb1))
  have PB := Lib.hid (dots_told B m d lb w1 (hb.below hb1))
  have l4 : w.heap.size < w1.heap.size := by omega
  have l5 : w.heap.size + 1 < w1.heap.size := by omega
  have HA := Lib.hid (ha.below hb1); have HB := Lib.hid (hb.below hb1); have HKA := Lib.hid (hka.below hb1); have HKB := Lib.hid (hkb.below hb1)
  have G := Lib.hid (show w.heap.size < w1.heap.size ∧ w.heap.size + 1 < w1.heap.size ∧ w.heap.size + 1 + 1 < w1.heap.size ∧ w.heap.size + 1 + 1 + 1 < w1.heap.size ∧ w.heap.size + 1 + 1 + 1 + 1 < w1.heap.size ∧ w.heap.size ≤ w.heap.size + 1 + 1 + 1 + 1 from by refine ⟨?_, ?_, ?_, ?_, ?_, ?_⟩ <;> omega)
  have HB1 := Lib.hid hb1; have H4 := Lib.hid h4; have H5 := Lib.hid h5; have H6 := Lib.hid h6; have H7 := Lib.hid h7; have H8 := Lib.hid h8
  have K : Hid (∀ W, Below w1.heap.size w1 W → Below w1.heap.size w1 W ∧ W.cell? ⟨w.heap.size, 4, none⟩ = some (.slice A n c) ∧ W.cell? ⟨w.heap.size + 1, 4, none⟩ = some (.slice B m d)) := by
    intro W hW
    obtain ⟨_, _, _, _, a4⟩ := cell_row5 h4
    obtain ⟨_, _, _, _, b4⟩ := cell_row5 h5
    exact ⟨hW, (hW.cell (p := ⟨_, 4, none⟩) l4).trans a4, (hW.cell (p := ⟨_, 4, none⟩) l5).trans b4⟩
  unfold jBoxes at hw1
  clear ha hb hka hkb h4 h5 h6 h7 h8 hs1 hb1 l4 l5
  go_enter Try.func34, Try.ntmps34
  go_upto_region 1 with fail
  rw [← hw1]
  clear hw1
  generalize w.heap.size + 1 + 1 + 1 + 1 = g8 at H8 G ⊢
  generalize w.heap.size + 1 + 1 + 1 = g7 at H7 G ⊢
  generalize w.heap.size + 1 + 1 = g6 at H6 G ⊢
  generalize w.heap.size + 1 = g5 at H5 K G ⊢
  go_cut [9, 10] (fun u v W => ∃ g9 g10 ga gb : Nat, u = .pointer (some ⟨g9, 0, none⟩) ∧ v = .pointer (some ⟨g10, 0, none⟩) ∧ Hid (W.cell? ⟨g9, 0, none⟩ = some (.map (some ga))) ∧ Hid (W.cell? ⟨g10, 0, none⟩ = some (.map (some gb))) ∧ Hid (MapD W ga (dotIn la)) ∧ Hid (MapD W gb (dotIn lb)) ∧ Below w1.heap.size w1 W)
  case first =>
    have K0 := K.out _ (Below.refl _ w1)
    go_region_held3 (fun W => Below w1.heap.size w1 W ∧ W.cell? ⟨w.heap.size, 4, none⟩ = some (.slice A n c) ∧ W.cell? ⟨g5, 4, none⟩ = some (.slice B m d))
      (first
        | exact K.out _ (by go_split_ands; repeat (first | assumption | exact Below.refl _ _ | refine below_new ?_ _ | refine Below.drew ?_ | (refine Below.setCell ?_ (by first | omega | (dsimp only; omega)) _))))
      (first
        | (go_at_call_of 73 (Value.slice A n c); refine (PA.out _ (by go_split_ands; assumption)).mono ?_; rintro e wa ⟨ga, rfl, hga, hma, bba, bba1, kca, kfa, hsa⟩; have sa := bba1.size; (try have : w1.heap.size < wa.heap.size := by ((try simp at hsa); omega)); (try have : ¬ (w1.heap.size = wa.heap.size) := by ((try simp at hsa); omega)); (try have : ¬ (wa.heap.size = w1.heap.size) := by ((try simp at hsa); omega)); (try have : w1.heap.size + 1 < wa.heap.size := by ((try simp at hsa); omega)); (try have : ¬ (w1.heap.size + 1 = wa.heap.size) := by ((try simp at hsa); omega)); (try have : ¬ (wa.heap.size = w1.heap.size + 1) := by ((try simp at hsa); omega)))
        | (go_at_call_of 73 (Value.slice B m d); refine (PB.out _ (by go_split_ands; assumption)).mono ?_; rintro e wb ⟨gb, rfl, hgb, hmb, bbb, bbb1, kcb, kfb, hsb⟩; have sb := bbb1.size; (try have : wa.heap.size < wb.heap.size := by ((try simp at hsb); omega)); (try have : ¬ (wa.heap.size = wb.heap.size) := by ((try simp at hsb); omega)); (try have : ¬ (wb.heap.size = wa.heap.size) := by ((try simp at hsb); omega)); (try have : wa.heap.size + 1 < wb.heap.size := by ((try simp at hsb); omega)); (try have : ¬ (wa.heap.size + 1 = wb.heap.size) := by ((try simp at hsb); omega)); (try have : ¬ (wb.heap.size = wa.heap.size + 1) := by ((try simp at hsb); omega)); (try have : w1.heap.size < wb.heap.size := by ((try simp at hsb); omega)); (try have : ¬ (w1.heap.size = wb.heap.size) := by ((try simp at hsb); omega)); (try have : ¬ (wb.heap.size = w1.heap.size) := by ((try simp at hsb); omega)); (try have : w1.heap.size + 1 < wb.heap.size := by ((try simp at hsb); omega)); (try have : ¬ (w1.heap.size + 1 = wb.heap.size) := by ((try simp at hsb); omega)); (try have : ¬ (wb.heap.size = w1.heap.size + 1) := by ((try simp at hsb); omega))))
    all_goals
      clear K PA PB HA HB HKA HKB G HB1 H4 H5 H6 H7 H8 K0
      have lga := hma.lt
      have lgb := hmb.lt
      refine at_world 9 10 rfl rfl (fun g9 g10 Z => Hid (Z.cell? ⟨g9, 0, none⟩ = some (.map (some ga))) ∧ Hid (Z.cell? ⟨g10, 0, none⟩ = some (.map (some gb))) ∧ Hid (MapD Z ga (dotIn la)) ∧ Hid (MapD Z gb (dotIn lb)) ∧ Hid (Below w1.heap.size w1 Z)) ⟨?_, ?_, ?_, ?_, ?_⟩ ?_
      · show _ = _
        repeat (first
          | (with_reducible refine (World.cell?_alloc_at _ _ _ _ ?_).trans ?_ <;> (first | rfl | (simp; done)))
          | ((with_reducible refine (World.cell?_alloc_past _ _ _ ?_).trans ?_); focus (first | omega | (simp; done) | (simp; omega)))
          | with_reducible refine World.cell?_setCell_same _ _ _ (u := .map none) ?_
          | ((with_reducible refine (World.cell?_setCell_other _ _ _ _ ?_).trans ?_); focus (intro e; have e2 := congrArg Addr.block e; dsimp only at e2; omega))
          | ((with_reducible refine (kcb _ _ ?_).trans ?_); focus (first | omega | (simp; done) | (simp; omega)))
          | ((with_reducible refine (kca _ _ ?_).trans ?_); focus (first | omega | (simp; done) | (simp; omega)))
          | with_reducible refine (cell_drew_ _ _).trans ?_)
      · show _ = _
        repeat (first
          | (with_reducible refine (World.cell?_alloc_at _ _ _ _ ?_).trans ?_ <;> (first | rfl | (simp; done)))
          | ((with_reducible refine (World.cell?_alloc_past _ _ _ ?_).trans ?_); focus (first | omega | (simp; done) | (simp; omega)))
          | with_reducible refine World.cell?_setCell_same _ _ _ (u := .map none) ?_
          | ((with_reducible refine (World.cell?_setCell_other _ _ _ _ ?_).trans ?_); focus (intro e; have e2 := congrArg Addr.block e; dsimp only at e2; omega))
          | ((with_reducible refine (kcb _ _ ?_).trans ?_); focus (first | omega | (simp; done) | (simp; omega)))
          | ((with_reducible refine (kca _ _ ?_).trans ?_); focus (first | omega | (simp; done) | (simp; omega)))
          | with_reducible refine (cell_drew_ _ _).trans ?_)
      · show MapD _ _ _
        repeat (first | with_reducible exact hma | with_reducible refine MapD.alloc ?_ _ | with_reducible refine MapD.drew_ ?_ | with_reducible refine MapD.below ?_ bbb | ((with_reducible refine MapD.setCell ?_ _ _ _ ?_); rotate_left; (first | omega | (simp only [World.size_alloc, World.size_drew] at hga hsb; omega) | (simp only [World.size_alloc] at hga; omega) | (simp only [World.size_alloc] at hsb; omega))))
      · show MapD _ _ _
        repeat (first | with_reducible exact hmb | with_reducible refine MapD.alloc ?_ _ | with_reducible refine MapD.drew_ ?_ | ((with_reducible refine MapD.setCell ?_ _ _ _ ?_); rotate_left; (first | omega | (simp only [World.size_alloc] at hgb; omega))))
      · show Below _ _ _
        go_split_ands
        with_reducible assumption
      · clear kca kfa kcb kfb bba bba1 bbb bbb1 hma hmb hga hgb hsa hsb sa sb lga lgb
        rintro Z ⟨z1, z2, z3, z4, z5⟩
        go_wp2_with fail
        go_meet
        exact ⟨_, _, ga, gb, rfl, rfl, z1, z2, z3, z4, z5.out⟩
  case rest =>
    clear PA PB
    obtain ⟨g9, g10, ga, gb, rfl, rfl, m9, m10, mA, mB, hbc⟩ := hcut
    have hsc := hbc.size
    obtain ⟨_, c4, _⟩ := K.out wc hbc
    have CK1 := Lib.hid (keep_any 74 #[.pointer (some ⟨g10, 0, none⟩), .pointer (some ⟨g7, 0, none⟩)] (joinA lb nb) A n c la wc Try.egJoin1 (HA.out.below hbc) (by omega) (join1_any (dotIn lb) D q qc nb g10 gb g7 wc m10.out mB.out (row_below H7.out hbc) (HKB.out.below hbc)))
    have CK2 : Hid (∀ W, Below wc.heap.size wc W → Calls Try.prog 38 #[.slice B m d, .func (.func 75) #[] #[.pointer (some ⟨g9, 0, none⟩), .pointer (some ⟨g6, 0, none⟩)]] W fun e w' => ∃ v, e = .returned v ∧ w'.ownsRow W.heap.size 30 11 v (lb.filter (joinB la na)).length ((lb.filter (joinB la na)).flatMap P11.cells) ∧ Below W.heap.size W w') := by
      intro W hW
      have hW1 := below_then hbc hW
      exact keep_any 75 #[.pointer (some ⟨g9, 0, none⟩), .pointer (some ⟨g6, 0, none⟩)] (joinB la na) B m d lb W Try.egJoin2 (HB.out.below hW1) (by omega) (join2_any (dotIn la) C p pc na g9 ga g6 W ((hW.cell (p := ⟨g9, 0, none⟩) (block_lt_of_cell m9.out)).trans m9.out) (mA.out.below hW) (row_below H6.out hW1) (HKA.out.below hW1))
    have hl1 : (la.filter (joinA lb nb)).length ≤ n := by have := List.length_filter_le (joinA lb nb) la; have := HA.out.len; omega
    have hl2 : (lb.filter (joinB la na)).length ≤ m := by have := List.length_filter_le (joinB la na) lb; have := HB.out.len; omega
    obtain ⟨L1, hL1⟩ : ∃ L1, Hid (L1 = la.filter (joinA lb nb)) := ⟨_, rfl⟩
    obtain ⟨L2, hL2⟩ : ∃ L2, Hid (L2 = lb.filter (joinB la na)) := ⟨_, rfl⟩
    have HJ : Hid (joinL la lb na nb = isort ltP (L1 ++ L2)) := by show _ = _; rw [joinL, hL1.out, hL2.out]
    rw [← hL1.out] at CK1 hl1
    rw [← hL2.out] at CK2 hl2
    clear m9 m10 mA mB HA HB HKA HKB H4 H5 H6 H7 hL1 hL2
    go_wp2_with fail
    refine CK1.out.mono ?_
    rintro e w3 ⟨v1, rfl, hown1, b3⟩
    have hb3 := below_then hbc b3
    obtain ⟨_, _, d4⟩ := K.out w3 hb3
    have CK3 := Lib.hid (CK2.out w3 b3)
    have HO1 := Lib.hid hown1; have HS3 := Lib.hid b3.size; have HB3c := Lib.hid b3
    clear CK1 CK2 hb3 b3 c4 hown1
    go_wp2_with fail
    refine CK3.out.mono ?_
    rintro e w4 ⟨v2, rfl, hown2, b4⟩
    obtain ⟨A2, c2, rfl, hrd2⟩ := RdG.own_ p11len (by omega) hown2
    have HB4 := Lib.hid (below_then HB3c.out b4)
    obtain ⟨v5, w5, hr5, hown5, hb5, hs5⟩ := run_appP (W0 := wc) wc.heap.size v1 L1.length L1 A2 L2.length c2 L2 (own_below HO1.out b4) hrd2 (by omega) HB4.out (by have := b4.size; have := HS3.out; omega) 24
    clear hrd2 hown2 HO1 CK3
    go_wp2_with (first
      | (at_builtin; refine Lib.wpList_append_run _ rfl _ _ _ _ rfl _ _ rfl rfl _ _ hr5 ?_)
      | (go_at_call 53; refine (sortP_any wc.heap.size (L1.length + L2.length) v5 (L1 ++ L2) w5 wc (by omega) hown5 hb5).mono ?_; rintro e w6 ⟨rfl, hb6, hs6, A6, c6, rfl, hrd6⟩; have hb7 := hbc.trans (hb6.mono hsc); have k7 := (hb7.block g8 G.out.2.2.2.2.1).trans H8.out; obtain ⟨r0, r1, r2, r3, r4⟩ := cell_row5 k7; have f0 := frozen_row k7; have HK7 := Lib.hid k7; have HR6 := Lib.hid hrd6; clear k7 hrd6))
    refine bodyPost_ret (v := cellV 1 ⟨0, 0, ⟨#[]⟩⟩ (.slice A6 (L1.length + L2.length) c6)) (results_cell_row rfl _ _ g8 26 _ (0, 0) _ rfl (set5 HK7.out) Try.underlying26 rfl (by kernel_rfl)) rfl ?_
    have hg9 := G.out.2.2.2.2.2
    have hl : (joinL la lb na nb).length = L1.length + L2.length := by rw [HJ.out, isort_len, List.length_append]
    rw [hl, HJ.out]
    refine ⟨A6, c6, rfl, ?_, (((((HB1.out.trans (hb7.mono (Nat.le_of_lt G.out.1))).setCell hg9 _).setCell hg9 _).setCell hg9 _).setCell hg9 _).setCell hg9 _⟩
    have hA6 : ∀ a, A6 = some a → a.block ≠ g8 := fun a ha => by
      have h1 := (hown5.lt a.block (by rw [ha]; rfl)).1
      have h2 := G.out.2.2.2.2.1
      omega
    exact rdg_set (rdg_set (rdg_set (rdg_set (rdg_set HR6.out _ hA6 0 _) _ hA6 1 _) _ hA6 2 _) _ hA6 3 _) _ hA6 4 _
end Go.Proofs.Ytomdbjmbkfdcmaa

