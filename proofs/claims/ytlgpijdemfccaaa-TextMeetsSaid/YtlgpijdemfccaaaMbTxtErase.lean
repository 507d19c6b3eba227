/- Layer 10: text.Erase. -/
import Derived.Test.YtlgpijdemfccaaaMbTxtMaps
import Derived.Test.YtlgpijdemfccaaaMbKids
import Derived.Test.YtlgpijdemfccaaaMbTxtHang
import Derived.Test.YtlgpijdemfccaaaMbTxtLib
import Derived.Test.YtlgpijdemfccaaaMbJoin
import Derived.Deep.RegionHeld3
namespace Go.Proofs.Ytlgpijdemfccaaa
set_option maxRecDepth 100000
open Go.RowKit

/-- parts of which each one of a name is gone -/
def erP (N : N3) (p : P11) : P11 := if nm p = N then { p with g := true } else p
def eraseL (l : List P11) (N : N3) : List P11 := l.map (erP N)
theorem eraseL_len (l : List P11) (N : N3) : (eraseL l N).length = l.length := List.length_map _
def erAt (l : List P11) (N : N3) (k : Nat) : List P11 := (l.take k).map (erP N) ++ l.drop k
theorem erAt_len (l : List P11) (N : N3) (k : Nat) : (erAt l N k).length = l.length := by simp [erAt]; omega
theorem erAt_zero (l : List P11) (N : N3) : erAt l N 0 = l := by simp [erAt]
theorem erAt_all {l : List P11} (N : N3) {k : Nat} (h : l.length ≤ k) : erAt l N k = eraseL l N := by
  rw [erAt, List.take_of_length_le h, List.drop_of_length_le h, List.append_nil]; rfl
theorem erAt_get {l : List P11} (N : N3) {k : Nat} {x : P11} (hx : l[k]? = some x) : (erAt l N k)[k]? = some x := by
  obtain ⟨hk, e⟩ := List.getElem?_eq_some_iff.1 hx
  rw [erAt, List.getElem?_append_right (by simp; omega)]
  simp only [List.length_map, List.length_take]
  rw [show k - min k l.length = 0 by omega, List.getElem?_drop, Nat.add_zero, hx]
theorem erAt_next {l : List P11} (N : N3) {k : Nat} {x : P11} (hx : l[k]? = some x) : (erAt l N k).set k (erP N x) = erAt l N (k + 1) := by
  obtain ⟨hk, e⟩ := List.getElem?_eq_some_iff.1 hx
  have hd : l.drop k = x :: l.drop (k + 1) := by rw [List.drop_eq_getElem_cons hk, e]
  have ht : l.take (k + 1) = l.take k ++ [x] := by rw [List.take_add_one, hx]; rfl
  rw [erAt, erAt, ht, hd, List.set_append_right _ _ (by simp; omega)]
  simp only [List.length_map, List.length_take, List.map_append, List.map_cons, List.map_nil, List.append_assoc, List.cons_append, List.nil_append]
  rw [show k - min k l.length = 0 by omega]
  rfl
theorem erAt_stay {l : List P11} (N : N3) {k : Nat} {x : P11} (hx : l[k]? = some x) (h : nm x ≠ N) : erAt l N k = erAt l N (k + 1) := by
  rw [← erAt_next N hx, show erP N x = x from if_neg h]
  obtain ⟨hk, e⟩ := List.getElem?_eq_some_iff.1 (erAt_get N hx)
  conv => lhs; rw [← List.set_getElem_self hk, e]

theorem own_set {w : World} {base g n cap sz : Nat} {e : TypeId} {xs : List Value} (h : w.ownsRow base e sz (.slice (some ⟨g, 0, none⟩) n cap) n xs) (j : Nat) (u : Value) : (w.setCell ⟨g, j, none⟩ u).ownsRow base e sz (.slice (some ⟨g, 0, none⟩) n cap) n (xs.set j u) := by
  refine ⟨by rw [List.length_set]; exact h.1, ?_⟩
  rcases h.2 with ⟨hv, _⟩ | ⟨g', cap', cur, hv, hg, hh, h1, h2, h3, h4⟩
  · cases hv
  · injection hv with e1 e2 e3
    injection e1 with e1
    injection e1 with e1
    subst e1 e3
    refine .inr ⟨g, cap, cur.setIfInBounds j u, rfl, hg, set_row hh j u, h1, h2, by simpa using h3, ?_⟩
    rw [Array.toList_setIfInBounds, List.take_set, h4]
theorem flat_setg : ∀ (M : List P11) (k : Nat) (x : P11), M[k]? = some x → (M.set k { x with g := true }).flatMap P11.cells = (M.flatMap P11.cells).set (k * 11 + 10) (.bool true)
  | [], k, x, h => by simp at h
  | y :: M, 0, x, h => by
    simp only [List.getElem?_cons_zero, Option.some.injEq] at h
    subst h
    rfl
  | y :: M, k + 1, x, h => by
    simp only [List.getElem?_cons_succ] at h
    rw [List.set_cons_succ, List.flatMap_cons, List.flatMap_cons, flat_setg M k x h, List.set_append_right _ _ (by rw [p11len]; omega), p11len]
    rw [show (k + 1) * 11 + 10 - 11 = k * 11 + 10 by omega]

abbrev dotRowT (a : D2) : Obj := .cells #[.int .i64 a.d, .int .i64 a.s] 40
theorem dot_rowT {w : World} {g : Nat} {x : D2} (h : w.heap[g]? = some (dotRowT x)) : w.cell? ⟨g, 0, none⟩ = some (.int .i64 x.d) ∧ w.cell? ⟨g, 1, none⟩ = some (.int .i64 x.s) := by
  have h2 := cell_row h
  refine ⟨?_, ?_⟩ <;> (rw [h2]; rfl)

/-- how an erasure stands -/
structure ErsAt (g3 g4 g6 : Nat) (k : Int) (v : V3) (d : D2) (B1 : Nat) (s : Value) (n : Nat) (M : List P11) (w W : World) : Prop where
  r3 : W.heap[g3]? = some (cellRow k v s)
  r4 : W.heap[g4]? = some (dotRowT d)
  r6 : W.heap[g6]? = some (cellRow 0 ⟨0, 0, ⟨#[]⟩⟩ nilS)
  own : W.ownsRow B1 45 11 s n (M.flatMap P11.cells)
  bel : Below w.heap.size w W
theorem ErsAt.below {g3 g4 g6 : Nat} {k : Int} {v : V3} {d : D2} {B1 : Nat} {s : Value} {n : Nat} {M : List P11} {w W W' : World} (h : ErsAt g3 g4 g6 k v d B1 s n M w W) (hb : Below W.heap.size W W') : ErsAt g3 g4 g6 k v d B1 s n M w W' :=
  ⟨row_below h.r3 hb, row_below h.r4 hb, row_below h.r6 hb, own_below h.own hb, below_then h.bel hb⟩
theorem ErsAt.gone {g3 g4 g6 : Nat} {k : Int} {v : V3} {d : D2} {B1 n g cap : Nat} {M : List P11} {w W : World} (h : ErsAt g3 g4 g6 k v d B1 (.slice (some ⟨g, 0, none⟩) n cap) n M w W) (h3 : g ≠ g3) (h4 : g ≠ g4) (h6 : g ≠ g6) (hB : w.heap.size ≤ B1) {j : Nat} {x : P11} (hx : M[j]? = some x) :
    ErsAt g3 g4 g6 k v d B1 (.slice (some ⟨g, 0, none⟩) n cap) n (M.set j { x with g := true }) w (W.setCell ⟨g, j * 11 + 10, none⟩ (.bool true)) := by
  refine ⟨(setCell_other (Ne.symm h3) _ _).trans h.r3, (setCell_other (Ne.symm h4) _ _).trans h.r4, (setCell_other (Ne.symm h6) _ _).trans h.r6, ?_, ?_⟩
  · rw [flat_setg _ _ _ hx]; exact own_set h.own _ _
  · exact h.bel.setCell (Nat.le_trans hB (h.own.lt g rfl).1) _

set_option maxHeartbeats 12800000 in
theorem eraseT_any (k : Int) (v : V3) (A : Option Addr) (n c : Nat) (l : List P11) (d : D2) (i : Int) (w : World) (h : RdP w A n c l) (hn : n ≤ 4294967000) :
    Calls Try.prog 18 #[cellV k v (.slice A n c), d.agg, .int .i64 i] w fun e w' => ∃ A' c', e = .returned (cellV k v (.slice A' n c')) ∧ RdP w' A' n c' (eraseL l ⟨d, i⟩) ∧ Below w.heap.size w w' ∧ ∀ a, A' = some a → w.heap.size ≤ a.block := by
  obtain ⟨w1, hw1⟩ : ∃ w1, w1 = ((w.alloc (cellRow k v (.slice A n c))).alloc (dotRowT d)).alloc (cellRow 0 ⟨0, 0, ⟨#[]⟩⟩ nilS) := ⟨_, rfl⟩
  obtain ⟨g3, hg3⟩ : ∃ g3, g3 = w.heap.size := ⟨_, rfl⟩
  obtain ⟨g4, hg4⟩ : ∃ g4, g4 = w.heap.size + 1 := ⟨_, rfl⟩
  obtain ⟨g6, hg6⟩ : ∃ g6, g6 = w.heap.size + 1 + 1 := ⟨_, rfl⟩
  have hb1 : Below w.heap.size w w1 := by rw [hw1]; exact below_new (below_new (below_new (Below.refl _ _) _) _) _
  have r3 : w1.heap[g3]? = some (cellRow k v (.slice A n c)) := by rw [hw1, hg3]; exact heap_past (by simp; omega) (heap_past (by simp) (heap_alloc_new w _))
  have r4 : w1.heap[g4]? = some (dotRowT d) := by rw [hw1, hg4]; exact heap_past (by simp) (heap_at (by simp))
  have r6 : w1.heap[g6]? = some (cellRow 0 ⟨0, 0, ⟨#[]⟩⟩ nilS) := by rw [hw1, hg6]; exact heap_at (by simp)
  have hlt : Hid (g3 < w1.heap.size ∧ g4 < w1.heap.size ∧ g6 < w1.heap.size ∧ g3 ≠ g4 ∧ g3 ≠ g6 ∧ g4 ≠ g6 ∧ w.heap.size ≤ g3 ∧ w.heap.size ≤ g6) := ⟨(Array.getElem?_eq_some_iff.1 r3).1, (Array.getElem?_eq_some_iff.1 r4).1, (Array.getElem?_eq_some_iff.1 r6).1, by omega, by omega, by omega, by omega, by omega⟩
  have CL := Lib.hid (cloneT_any A n c l w1 (h.below hb1) (by omega))
  have HL := Lib.hid h.len
  have hle := h.le
  have HB1 := Lib.hid hb1; have R3 := Lib.hid r3; have R4 := Lib.hid r4; have R6 := Lib.hid r6
  obtain ⟨N, hN⟩ : ∃ N : N3, Hid (N = ⟨d, i⟩) := ⟨_, rfl⟩
  obtain ⟨O, hO⟩ : ∃ O, Hid (eraseL l N = O) := ⟨_, rfl⟩
  rw [← hN.out, hO.out]
  obtain ⟨c0, c1, c2, c3, c4⟩ := cell_row5 r3
  have f4 := frozen_row r3 4
  replace hw1 := Lib.hid hw1
  clear h hb1 r3 r4 r6 hn
  go_enter Try.func18, Try.ntmps18
  go_upto_region 1 with fail
  rw [show ((w.alloc (cellRow k v (.slice A n c))).alloc (dotRowT d)).alloc (cellRow 0 ⟨0, 0, ⟨#[]⟩⟩ nilS) = w1 from hw1.out.symm, show w.heap.size + 1 + 1 = g6 from hg6.symm, show w.heap.size + 1 = g4 from hg4.symm, ← hg3]
  clear hw1
  replace hg3 := Lib.hid hg3; replace hg4 := Lib.hid hg4; replace hg6 := Lib.hid hg6
  go_wp2_with fail
  refine CL.out.mono ?_
  rintro e w2 ⟨vs, rfl, hown, b2⟩
  obtain ⟨A', c', rfl, hrd2⟩ := RdG.own_ p11len (by omega) hown
  have hcap := hrd2.cap
  have ER : Hid (ErsAt g3 g4 g6 k v d w1.heap.size (.slice A' n c') n (erAt l N 0) w (w2.setCell ⟨g3, 4, none⟩ (.slice A' n c'))) := by
    have h1 := row_below R3.out b2
    obtain ⟨q1, q2, q3, q4, q5, q6, q7, q8⟩ := hlt.out
    refine ⟨by rw [set_row h1 4]; rfl, (setCell_other (Ne.symm q4) _ _).trans (row_below R4.out b2), (setCell_other (Ne.symm q5) _ _).trans (row_below R6.out b2), ?_, (below_then HB1.out b2).setCell q7 _⟩
    rw [erAt_zero]
    exact own_block hown (fun b hb => setCell_other (fun e => by have := (hown.lt b hb).1; omega) _ _)
  obtain ⟨d0, d1, d2, d3, d4⟩ := cell_row5 (row_below R3.out b2)
  have f5 := frozen_row (row_below R3.out b2) 4
  have hat : Hid (∀ a, A' = some a → w.heap.size ≤ a.block) := fun a ha => Nat.le_trans HB1.out.size (hown.lt a.block (by rw [ha]; rfl)).1
  have hA' : Hid (0 < n → ∃ ga, A' = some ⟨ga, 0, none⟩ ∧ w1.heap.size ≤ ga) := fun h0 => by
    rcases hown.2 with ⟨hv, hz⟩ | ⟨ga, cap, cur, hv, hg, _⟩
    · omega
    · injection hv with hv; exact ⟨ga, hv, hg⟩
  clear CL hown b2 hrd2 c0 c1 c2 c3 c4 f4 R3 R4 R6
  go_upto_region 2 with fail
  clear d0 d1 d2 d3 d4 f5
  generalize w2.setCell ⟨g3, 4, none⟩ (.slice A' n c') = w3 at ER ⊢
  obtain ⟨c0, c1, c2, c3, c4⟩ := cell_row5 ER.out.r3
  go_wp2_with fail
  clear c0 c1 c2 c3 c4
  go_loopw [16] (fun ii wr => ∃ j : Nat, j ≤ n ∧ ii = .int .i64 j ∧ Hid (ErsAt g3 g4 g6 k v d w1.heap.size (.slice A' n c') n (erAt l N j) w wr)) (fun ii _ => n - (intOf ii).toNat)
  case atStart => exact ⟨0, Nat.zero_le _, rfl, ER⟩
  case round =>
    clear ER
    obtain ⟨j, hj, rfl, HE⟩ := hrel
    by_cases hlt2 : j < n
    · obtain ⟨ga, rfl, hga⟩ := hA'.out (by omega)
      obtain ⟨x, hx⟩ : ∃ x, l[j]? = some x := ⟨_, List.getElem?_eq_getElem (by have := HL.out; omega)⟩
      have hxe := erAt_get N hx
      obtain ⟨Ar, cr, hvr, hrd⟩ := RdG.own_ p11len (by omega) HE.out.own
      injection hvr with v1 v2 v3
      subst v1 v3
      obtain ⟨b, o, x', e1, hb, hx', hld⟩ := hrd.part hlt2
      injection e1 with e1
      injection e1 with e1 e2
      subst e1 e2
      rw [hxe] at hx'
      injection hx' with hx'
      subst hx'
      obtain ⟨c0, c1, c2, c3, c4, c5, c6, c7, c8, c9, c10⟩ := hld wr (Below.refl _ _)
      simp only [Nat.zero_add] at c0 c1 c2 c3 c4 c5 c6 c7 c8 c9 c10
      have HX := Lib.hid hx
      have HXE := Lib.hid hxe
      obtain ⟨w4, hw4⟩ : ∃ w4, w4 = wr.alloc (partCells x) := ⟨_, rfl⟩
      obtain ⟨gx, hgx⟩ : ∃ gx, gx = wr.heap.size := ⟨_, rfl⟩
      have bb : Below wr.heap.size wr w4 := by rw [hw4]; exact below_new (Below.refl _ _) _
      have hnew : w4.heap[gx]? = some (partCells x) := by rw [hw4, hgx]; exact heap_alloc_new _ _
      have HE4 := Lib.hid (HE.out.below bb)
      have HGA := Lib.hid hga
      obtain ⟨M, hM⟩ : ∃ M, Hid (nm x = M) := ⟨_, rfl⟩
      have PN : Hid (∀ W, Calls Try.prog 28 #[x.agg] W fun e w' => e = .returned M.agg ∧ w' = (W.alloc (partCells x)).alloc (nameRow M)) := fun W => by rw [← hM.out]; exact nameOf_is x W
      obtain ⟨q, hq⟩ : ∃ q, Hid (decide (M = N) = q) := ⟨_, rfl⟩
      have EQ : ∀ W, (Op.equalIn 10000 54 (.agg #[.int .i64 M.d.d, .int .i64 M.d.s, .int .i64 M.i]) (.agg #[.int .i64 d.d, .int .i64 d.s, .int .i64 i])).run Try.prog W = .ok q W := fun W => by
        have := run_equalIn_nameF 9997 M N W
        rw [hq.out] at this
        rw [hN.out] at this
        exact this
      have K : Hid (∀ W, Below w4.heap.size w4 W → W.cell? ⟨gx, 0, none⟩ = some (.int .i64 x.v.k) ∧ W.cell? ⟨gx, 1, none⟩ = some (.int .i64 x.v.n) ∧ W.cell? ⟨gx, 2, none⟩ = some (.string x.v.s) ∧ W.cell? ⟨gx, 3, none⟩ = some (.int .i64 x.d.d) ∧ W.cell? ⟨gx, 4, none⟩ = some (.int .i64 x.d.s) ∧ W.cell? ⟨gx, 5, none⟩ = some (.int .i64 x.i) ∧ W.cell? ⟨gx, 6, none⟩ = some (.int .i64 x.t) ∧ W.cell? ⟨gx, 7, none⟩ = some (.int .i64 x.a.d) ∧ W.cell? ⟨gx, 8, none⟩ = some (.int .i64 x.a.s) ∧ W.cell? ⟨gx, 9, none⟩ = some (.int .i64 x.j) ∧ W.cell? ⟨gx, 10, none⟩ = some (.bool x.g) ∧ W.cell? ⟨g4, 0, none⟩ = some (.int .i64 d.d) ∧ W.cell? ⟨g4, 1, none⟩ = some (.int .i64 d.s)) := fun W hW => by
        obtain ⟨p0, p1, p2, p3, p4, p5, p6, p7, p8, p9, p10⟩ := part_row (row_below hnew hW)
        obtain ⟨q0, q1⟩ := dot_rowT (HE4.out.below hW).r4
        exact ⟨p0, p1, p2, p3, p4, p5, p6, p7, p8, p9, p10, q0, q1⟩
      have z1 : (0 : Int) ≤ (j : Int) := by omega
      have z2 : (j : Int) < (n : Int) := by omega
      clear hx hxe hrd hld bb hnew hb HE hga
      replace hw4 := Lib.hid hw4; replace hgx := Lib.hid hgx
      go_upto_region 5 with fail
      rw [show wr.alloc (partCells x) = w4 from hw4.out.symm, show wr.heap.size = gx from hgx.out.symm]
      clear hw4 hgx c0 c1 c2 c3 c4 c5 c6 c7 c8 c9 c10
      go_region_held3 (fun W => W.cell? ⟨gx, 0, none⟩ = some (.int .i64 x.v.k) ∧ W.cell? ⟨gx, 1, none⟩ = some (.int .i64 x.v.n) ∧ W.cell? ⟨gx, 2, none⟩ = some (.string x.v.s) ∧ W.cell? ⟨gx, 3, none⟩ = some (.int .i64 x.d.d) ∧ W.cell? ⟨gx, 4, none⟩ = some (.int .i64 x.d.s) ∧ W.cell? ⟨gx, 5, none⟩ = some (.int .i64 x.i) ∧ W.cell? ⟨gx, 6, none⟩ = some (.int .i64 x.t) ∧ W.cell? ⟨gx, 7, none⟩ = some (.int .i64 x.a.d) ∧ W.cell? ⟨gx, 8, none⟩ = some (.int .i64 x.a.s) ∧ W.cell? ⟨gx, 9, none⟩ = some (.int .i64 x.j) ∧ W.cell? ⟨gx, 10, none⟩ = some (.bool x.g) ∧ W.cell? ⟨g4, 0, none⟩ = some (.int .i64 d.d) ∧ W.cell? ⟨g4, 1, none⟩ = some (.int .i64 d.s))
        (first
          | (refine K.out _ ?_; (repeat (first | exact Below.refl _ _ | refine below_new ?_ _ | refine Below.drew ?_)); done))
        (first
          | (go_at_call 28; refine (PN.out _).mono ?_; rintro e wx ⟨rfl, rfl⟩))
      have hbz : Below w4.heap.size w4 ((w4.alloc (partCells x)).alloc (nameRow M)).drew := (below_new (below_new (Below.refl _ _) _) _).drew
      generalize ((w4.alloc (partCells x)).alloc (nameRow M)).drew = w5 at hbz ⊢
      have HE5 := Lib.hid (HE4.out.below hbz)
      clear hbz K PN EQ HE4
      cases q with
      | false =>
        have HF : Hid (ErsAt g3 g4 g6 k v d w1.heap.size (.slice (some ⟨ga, 0, none⟩) n c') n (erAt l N (j + 1)) w w5) := by
          rw [← erAt_stay N HX.out (by rw [hM.out]; exact of_decide_eq_false hq.out)]; exact HE5.out
        clear HE5
        go_wp2_with fail
        exact ⟨⟨j + 1, by omega, by go_num, HF⟩, by simp [intOf]; omega⟩
      | true =>
        have HF : Hid (ErsAt g3 g4 g6 k v d w1.heap.size (.slice (some ⟨ga, 0, none⟩) n c') n (erAt l N (j + 1)) w (w5.setCell ⟨ga, j * 11 + 10, none⟩ (.bool true))) := by
          obtain ⟨q1, q2, q3, q4, q5, q6, q7, q8⟩ := hlt.out
          have hga := HGA.out
          have := HE5.out.gone (by omega) (by omega) (by omega) (by omega) HXE.out
          rw [show ({ x with g := true } : P11) = erP N x from (if_pos (by rw [hM.out]; exact of_decide_eq_true hq.out)).symm, erAt_next N HX.out] at this
          exact this
        obtain ⟨c0, c1, c2, c3, c4⟩ := cell_row5 HE5.out.r3
        have hcell : w5.cell? ⟨ga, j * 11 + 10, none⟩ = some (.bool x.g) := by
          obtain ⟨Ar, cr, hvr, hrd⟩ := RdG.own_ p11len (by omega) HE5.out.own
          injection hvr with v1 v2 v3
          subst v1 v3
          obtain ⟨b, o, x', e1, hb, hx', hld⟩ := hrd.part hlt2
          injection e1 with e1
          injection e1 with e1 e2
          subst e1 e2
          rw [HXE.out] at hx'
          injection hx' with hx'
          subst hx'
          have := (hld w5 (Below.refl _ _)).2.2.2.2.2.2.2.2.2.2
          rwa [Nat.zero_add] at this
        have hfro : w5.frozen? ⟨ga, j * 11 + 10, none⟩ = false := by
          rcases HE5.out.own.2 with ⟨hv, _⟩ | ⟨b, cap', cur, hv, _, hh, _⟩
          · cases hv
          · injection hv with e1
            injection e1 with e1
            injection e1 with e1
            subst e1
            exact frozen_row hh _
        clear HE5
        go_wp2_with fail
        exact ⟨⟨j + 1, by omega, by go_num, HF⟩, by simp [intOf]; omega⟩
    · have hE := HE.out
      rw [erAt_all N (by have := HL.out; omega), hO.out] at hE
      obtain ⟨q1, q2, q3, q4, q5, q6, q7, q8⟩ := hlt.out
      obtain ⟨c0, c1, c2, c3, c4⟩ := cell_row5 hE.r3
      obtain ⟨d0, d1, d2, d3, d4⟩ := cell_row5 hE.r6
      have f6 := frozen_row hE.r6
      have HR6 := Lib.hid hE.r6
      have hfin : Hid (RdP (((((wr.setCell ⟨g6, 0, none⟩ (.int .i64 k)).setCell ⟨g6, 1, none⟩ (.int .i64 v.k)).setCell ⟨g6, 2, none⟩ (.int .i64 v.n)).setCell ⟨g6, 3, none⟩ (.string v.s)).setCell ⟨g6, 4, none⟩ (.slice A' n c')) A' n c' O) := by
        have h1 : (((((wr.setCell ⟨g6, 0, none⟩ (.int .i64 k)).setCell ⟨g6, 1, none⟩ (.int .i64 v.k)).setCell ⟨g6, 2, none⟩ (.int .i64 v.n)).setCell ⟨g6, 3, none⟩ (.string v.s)).setCell ⟨g6, 4, none⟩ (.slice A' n c')).ownsRow w1.heap.size 45 11 (.slice A' n c') n (O.flatMap P11.cells) :=
          own_block hE.own (fun b hb => by
            have := (hE.own.lt b hb).1
            rw [setCell_other (by omega), setCell_other (by omega), setCell_other (by omega), setCell_other (by omega), setCell_other (by omega)])
        obtain ⟨Ar, cr, hvr, hrd⟩ := RdG.own_ p11len (by omega) h1
        injection hvr with v1 v2 v3
        subst v1 v3
        exact hrd
      have hbel : Hid (Below w.heap.size w (((((wr.setCell ⟨g6, 0, none⟩ (.int .i64 k)).setCell ⟨g6, 1, none⟩ (.int .i64 v.k)).setCell ⟨g6, 2, none⟩ (.int .i64 v.n)).setCell ⟨g6, 3, none⟩ (.string v.s)).setCell ⟨g6, 4, none⟩ (.slice A' n c'))) :=
        ((((hE.bel.setCell q8 _).setCell q8 _).setCell q8 _).setCell q8 _).setCell q8 _
      clear hE HE q1 q2 q3 q4 q5 q6 q7 q8
      go_wp2_with fail
      refine bodyPost_ret (v := cellV k v (.slice A' n c')) (results_cell_row rfl _ _ g6 26 _ (0, 0) _ rfl (set5 HR6.out) Try.underlying26 rfl (by kernel_rfl)) rfl ?_
      exact ⟨A', c', rfl, hfin.out, hbel.out, hat.out⟩
end Go.Proofs.Ytlgpijdemfccaaa

