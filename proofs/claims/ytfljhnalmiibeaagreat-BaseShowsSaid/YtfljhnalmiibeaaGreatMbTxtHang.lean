/- Several texts laid together: TxtHang, TxtOrd, TxtWholeM, TxtForm. -/
import Derived.Test.YtfljhnalmiibeaaGreatMbTxtSort
import Derived.Deep.RegionHeld3
import Derived.Laws.EntriesVeiled
import Derived.Test.YtfljhnalmiibeaaGreatMbClkGrown
namespace Go.Proofs.YtfljhnalmiibeaaGreat
set_option maxRecDepth 100000
open Go.RowKit
abbrev oneRow (v : Value) (t : TypeId) : Obj := .cells #[v] t
theorem one_row10 {w : World} {g : Nat} {v : Value} {t : TypeId} (h : w.heap[g]? = some (oneRow v t)) : w.cell? ⟨g, 0, none⟩ = some v ∧ w.frozen? ⟨g, 0, none⟩ = false := ⟨by rw [cell_row h]; rfl, frozen_row h 0⟩
theorem set_one {w : World} {g : Nat} {v : Value} {t : TypeId} (h : w.heap[g]? = some (oneRow v t)) (x : Value) : (w.setCell ⟨g, 0, none⟩ x).heap[g]? = some (oneRow x t) := by rw [set_row h 0]; rfl
theorem setCell_other {w : World} {g k : Nat} (hne : k ≠ g) (j : Nat) (x : Value) : (w.setCell ⟨g, j, none⟩ x).heap[k]? = w.heap[k]? := by
  show (w.heap.modify g _)[k]? = _
  rw [Array.getElem?_modify, if_neg (fun e => hne e.symm)]
/-- a row's block holds elements of its type -/
theorem own_ne_type {w : World} {base : Nat} {e : TypeId} {size : Nat} {v : Value} {n : Nat} {xs : List Value} (h : w.ownsRow base e size v n xs) {g b : Nat} {cs : Array Value} {t : TypeId} (hm : w.heap[g]? = some (.cells cs t)) (ht : t ≠ e) (hb : v.ownBlock = some b) : b ≠ g := by
  rintro rfl
  rcases h.2 with ⟨rfl, _⟩ | ⟨g, cap, cur, rfl, _, hh, _⟩
  · cases hb
  · cases hb
    rw [hm] at hh
    injection hh with hh
    injection hh with _ h2
    exact ht h2
/-- a part more, behind a row of the call's own: where it lies is told -/
theorem wpList_pushT {w : World} {ops : Array Oper} {rest : List Oper} {o : Oper} {a : Act} {Q : Exit → Act → World → Prop} (hgd : o.guard = none) (s x : Operand)
    (ho : o.op = .call { callee := .builtin .append, args := #[s, x], argTypes := #[70, 70] })
    (base : Nat) (v : Value) (n : Nat) (l : List P11) (u : P11) (g : Nat) (hg : w.heap.size = g) (hx : a.eval x = .slice (some ⟨g, 0, none⟩) 1 1)
    (hs : a.eval s = v) (hown : w.ownsRow base 105 11 v n (l.flatMap P11.cells)) (hn : n < 4294967296) (hbase : base ≤ w.heap.size)
    (h : ∀ v' w', w'.ownsRow base 105 11 v' (n + 1) ((l ++ [u]).flatMap P11.cells) → (w.alloc (partCells u)).grownBy w' v.ownBlock → wpList Tryz.prog ops Q rest (a.put o.dst v') w') :
    wpList Tryz.prog ops Q (o :: rest) a (w.alloc (partCells u)) := by
  subst hg
  obtain ⟨i0, hi0, hz0, hz1, hz2⟩ := info_parts Tryz.infoPart
  refine wpList_append_own _ hgd s x 70 ho base 105 i0 _ 11 96 Tryz.underlying70 hi0 hz0 hz1 hz2 rfl (by omega) v n (l.flatMap P11.cells) hs (hown.alloc _) ⟨w.heap.size, 0, none⟩ 1 1 u.cells hx rfl ?_
    (p11one u) (by simp only [maxLen]; omega) (by omega) (by simp; omega) ?_
  · intro j y hj
    rw [Addr.add_lit, Nat.zero_add, cell_row (heap_alloc_new w _)]
    simpa [P11.cells] using hj
  intro v' w' hown' hgrow _
  refine h v' w' ?_ hgrow
  rw [List.flatMap_append]
  simpa using hown'
/-- how the walk down stands: l is told already -/
structure HangAt (wk : World) (Bo Bh : Nat) (hv : Value) (l : List P11) (W : World) : Prop where
  bel : Below wk.heap.size wk W
  bh : W.heap[Bh]? = some (oneRow hv 174)
  out : ∃ v, W.heap[Bo]? = some (oneRow v 70) ∧ W.ownsRow wk.heap.size 105 11 v l.length (l.flatMap P11.cells)
  lo : wk.heap.size ≤ Bo
theorem HangAt.below {wk : World} {Bo Bh : Nat} {hv : Value} {l : List P11} {W W' : World} (h : HangAt wk Bo Bh hv l W) (hb : Below W.heap.size W W') : HangAt wk Bo Bh hv l W' := by
  obtain ⟨v, h1, h2⟩ := h.out
  exact ⟨below_then h.bel hb, row_below h.bh hb, ⟨v, row_below h1 hb, own_below h2 hb⟩, h.lo⟩
theorem HangAt.push {wk : World} {Bo Bh : Nat} {hv : Value} {l : List P11} {W W' : World} {v v' : Value} {p : P11} (h : HangAt wk Bo Bh hv l W) (hne : Bh ≠ Bo) (h1 : W.heap[Bo]? = some (oneRow v 70)) (h2 : W.ownsRow wk.heap.size 105 11 v l.length (l.flatMap P11.cells))
    (hown : W'.ownsRow wk.heap.size 105 11 v' (l.length + 1) ((l ++ [p]).flatMap P11.cells)) (hgr : W.grownBy W' v.ownBlock) : HangAt wk Bo Bh hv (l ++ [p]) (W'.setCell ⟨Bo, 0, none⟩ v') ∧ W'.heap[Bo]? = some (oneRow v 70) := by
  have e1 : W'.heap[Bo]? = some (oneRow v 70) := by
    rw [hgr.block Bo (Array.getElem?_eq_some_iff.1 h1).1 (fun e => own_ne_type h2 h1 (by decide) e.symm rfl), h1]
  have e2 : W'.heap[Bh]? = some (oneRow hv 174) := by
    rw [hgr.block Bh (Array.getElem?_eq_some_iff.1 h.bh).1 (fun e => own_ne_type h2 h.bh (by decide) e.symm rfl), h.bh]
  refine ⟨⟨?_, ?_, ⟨v', set_one e1 v', ?_⟩, h.lo⟩, e1⟩
  · exact (h.bel.grown hgr h.bel.size (fun k hk => (h2.lt k hk).1)).setCell h.lo _
  · rw [setCell_other hne]; exact e2
  · have : (l ++ [p]).length = l.length + 1 := by simp
    rw [this]
    exact own_block hown (fun b hb => setCell_other (own_ne_type hown e1 (by decide) hb) _ _)
abbrev hangV (Bo Bc Bh : Nat) : Value := .func (.func 149) #[] #[.pointer (some ⟨Bo, 0, none⟩), .pointer (some ⟨Bc, 0, none⟩), .pointer (some ⟨Bh, 0, none⟩)]
theorem flat_takeT {h : P11 → List P11} {C : List P11} {k : Nat} {x : P11} (hx : C[k]? = some x) : (C.take (k + 1)).flatMap h = (C.take k).flatMap h ++ h x := by
  rw [List.take_add_one, hx, List.flatMap_append]; simp
theorem flat_takeT_le {h : P11 → List P11} {C : List P11} (k : Nat) : ((C.take k).flatMap h).length ≤ (C.flatMap h).length := by
  conv => rhs; rw [← List.take_append_drop k C, List.flatMap_append, List.length_append]
  omega
set_option maxHeartbeats 6400000 in
theorem hang_step (wk : World) (Bo Bc Bh g : Nat) (m : N3 → List P11) (hk : KidsR g m wk) (hc : wk.heap[Bc]? = some (oneRow (.map (some g)) 172)) (hne : Bh ≠ Bo) (h : P11 → List P11) (p : P11) (C : List P11) (hC : m (nm p) = C)
    (ih : ∀ c ∈ C, ∀ l W, HangAt wk Bo Bh (hangV Bo Bc Bh) l W → (l ++ h c).length ≤ 4294967000 → Calls Tryz.prog 149 #[c.agg, .pointer (some ⟨Bo, 0, none⟩), .pointer (some ⟨Bc, 0, none⟩), .pointer (some ⟨Bh, 0, none⟩)] W fun e w' => e = .returned (.tuple #[]) ∧ HangAt wk Bo Bh (hangV Bo Bc Bh) (l ++ h c) w')
    (l : List P11) (w : World) (hw : HangAt wk Bo Bh (hangV Bo Bc Bh) l w) (hn : (l ++ p :: C.flatMap h).length ≤ 4294967000) :
    Calls Tryz.prog 149 #[p.agg, .pointer (some ⟨Bo, 0, none⟩), .pointer (some ⟨Bc, 0, none⟩), .pointer (some ⟨Bh, 0, none⟩)] w fun e w' => e = .returned (.tuple #[]) ∧ HangAt wk Bo Bh (hangV Bo Bc Bh) (l ++ p :: C.flatMap h) w' := by
  obtain ⟨es, cl, hmap, hkid⟩ := hk
  obtain ⟨A, cc, hrowv, hrd⟩ := hkid (nm p)
  rw [hC] at hrowv hrd
  obtain ⟨w1, hw1⟩ : ∃ w1, w1 = w.alloc (partCells p) := ⟨_, rfl⟩
  have bb : Below w.heap.size w w1 := by rw [hw1]; exact below_new (Below.refl _ _) _
  have hnew : w1.heap[w.heap.size]? = some (partCells p) := by rw [hw1]; exact heap_alloc_new _ _
  have HA := Lib.hid (hw.below bb)
  obtain ⟨gp, hgp⟩ : ∃ gp, gp = w.heap.size := ⟨_, rfl⟩
  rw [← hgp] at hnew
  have hgk : Hid (gp < w1.heap.size ∧ wk.heap.size ≤ gp ∧ Bo ≠ gp) := by
    obtain ⟨_, h1, _⟩ := hw.out
    have h3 := (Array.getElem?_eq_some_iff.1 h1).1
    have h4 := hw.bel.size
    exact ⟨(Array.getElem?_eq_some_iff.1 hnew).1, by omega, by omega⟩
  have hCl := Lib.hid hrd.len
  have hle := hrd.le
  have HN : Hid (l.length + 1 + (C.flatMap h).length ≤ 4294967000) := by
    rw [List.length_append, List.length_cons] at hn; show _ ≤ _; omega
  have HRD := Lib.hid hrd; have HMAP := Lib.hid hmap; have HC := Lib.hid hc; have HROW := Lib.hid hrowv
  have HIH := Lib.hid ih; have HNE := Lib.hid hne; have HNEW := Lib.hid hnew
  obtain ⟨v, hv01, hv02⟩ := hw.out
  have hv1 := row_below hv01 bb
  have hv2 := own_below hv02 bb
  have hvlt : Hid (∀ b, v.ownBlock = some b → b < gp) := fun b hb => by rw [hgp]; exact (hv02.lt b hb).2
  obtain ⟨q0, q1⟩ := one_row10 hv1
  obtain ⟨a0, a1, a2, a3, a4, a5, a6, a7, a8, a9, a10⟩ := part_row hnew
  have HV1 := Lib.hid hv1; have HV2 := Lib.hid hv2
  replace hw1 := Lib.hid hw1
  replace hgp := Lib.hid hgp
  clear ih hrd hmap hc hrowv hkid hne hw hn bb hnew hv1 hv2 hC hv01 hv02
  go_enter Tryz.func149, Tryz.ntmps149
  go_upto_region 1 with fail
  rw [show w.alloc (partCells p) = w1 from hw1.out.symm, ← hgp.out]
  clear hw1 hgp
  go_upto_region 2 with (at_builtin; (refine wpList_pushT rfl _ _ rfl wk.heap.size v l.length l p _ rfl rfl rfl HV2.out (by have := HN.out; omega) HA.out.bel.size ?_; intro v5 w5 hw5 hgr5; obtain ⟨A6, c6, rfl, _⟩ := RdG.own_ p11len (by omega) hw5; have hgr6 : w1.grownBy w5 v.ownBlock := ⟨hgr5.os, hgr5.tape, hgr5.output, Nat.le_trans (by simp) hgr5.size, fun k hk hne => (hgr5.block k (by rw [World.size_alloc]; omega) hne).trans (Below.heap_alloc _ _ _ hk)⟩; obtain ⟨hp1, hp2⟩ := HA.out.push HNE.out HV1.out HV2.out hw5 hgr6; have HP1 := Lib.hid hp1; obtain ⟨r0, r1⟩ := one_row10 hp2; have HPN : Hid ((w5.setCell ⟨Bo, 0, none⟩ (.slice A6 (l.length + 1) c6)).heap[gp]? = some (partCells p)) := (setCell_other (Ne.symm hgk.out.2.2) _ _).trans ((hgr6.block gp hgk.out.1 (fun e => by have := hvlt.out gp e.symm; omega)).trans HNEW.out); clear hw5 hgr5 hgr6 hp1 hp2))
  clear q0 q1 a0 a1 a2 a3 a4 a5 a6 a7 a8 a9 a10
  generalize w5.setCell ⟨Bo, 0, none⟩ (.slice A6 (l.length + 1) c6) = w6 at HP1 HPN ⊢
  clear HA HV1 HV2 hvlt HNEW hgk r0 r1
  obtain ⟨N, hN⟩ : ∃ N, Hid (nm p = N) := ⟨_, rfl⟩
  rw [hN.out] at HROW
  have PN : Hid (∀ W, Calls Tryz.prog 144 #[p.agg] W fun e w' => e = .returned N.agg ∧ w' = (W.alloc (partCells p)).alloc (nameRow N)) := fun W => by rw [← hN.out]; exact nameOf_is p W
  have RL : ∀ W, AtO g (mapO N3.agg es cl) W → (Instr.lookup 172 (.map (some g)) N.agg false).run Tryz.prog W = .ok (.slice A C.length cc) W := fun W hW => by
    rw [← HROW.out]; exact run_lookK keyNP hW N
  have m0 : AtO g (mapO N3.agg es cl) w6 := row_below HMAP.out HP1.out.bel
  have m1 := AtO.alloc g N3.agg es cl
  have m2 := AtO.drew g (mapO N3.agg es cl)
  have K : Hid (∀ W, Below w6.heap.size w6 W → W.cell? ⟨Bc, 0, none⟩ = some (.map (some g)) ∧ W.cell? ⟨gp, 0, none⟩ = some (.int .i64 p.v.k) ∧ W.cell? ⟨gp, 1, none⟩ = some (.int .i64 p.v.n) ∧ W.cell? ⟨gp, 2, none⟩ = some (.string p.v.s) ∧ W.cell? ⟨gp, 3, none⟩ = some (.int .i64 p.d.d) ∧ W.cell? ⟨gp, 4, none⟩ = some (.int .i64 p.d.s) ∧ W.cell? ⟨gp, 5, none⟩ = some (.int .i64 p.i) ∧ W.cell? ⟨gp, 6, none⟩ = some (.int .i64 p.t) ∧ W.cell? ⟨gp, 7, none⟩ = some (.int .i64 p.a.d) ∧ W.cell? ⟨gp, 8, none⟩ = some (.int .i64 p.a.s) ∧ W.cell? ⟨gp, 9, none⟩ = some (.int .i64 p.j) ∧ W.cell? ⟨gp, 10, none⟩ = some (.bool p.g)) := fun W hW => ⟨(one_row10 (row_below HC.out (below_then HP1.out.bel hW))).1, part_row (row_below HPN.out hW)⟩
  go_region_held3 (fun W => W.cell? ⟨Bc, 0, none⟩ = some (.map (some g)) ∧ W.cell? ⟨gp, 0, none⟩ = some (.int .i64 p.v.k) ∧ W.cell? ⟨gp, 1, none⟩ = some (.int .i64 p.v.n) ∧ W.cell? ⟨gp, 2, none⟩ = some (.string p.v.s) ∧ W.cell? ⟨gp, 3, none⟩ = some (.int .i64 p.d.d) ∧ W.cell? ⟨gp, 4, none⟩ = some (.int .i64 p.d.s) ∧ W.cell? ⟨gp, 5, none⟩ = some (.int .i64 p.i) ∧ W.cell? ⟨gp, 6, none⟩ = some (.int .i64 p.t) ∧ W.cell? ⟨gp, 7, none⟩ = some (.int .i64 p.a.d) ∧ W.cell? ⟨gp, 8, none⟩ = some (.int .i64 p.a.s) ∧ W.cell? ⟨gp, 9, none⟩ = some (.int .i64 p.j) ∧ W.cell? ⟨gp, 10, none⟩ = some (.bool p.g))
    (first
      | (refine K.out _ ?_; (repeat (first | exact Below.refl _ _ | refine below_new ?_ _ | refine Below.drew ?_)); done))
    (first
      | (go_at_call 144; refine (PN.out _).mono ?_; rintro e wx ⟨rfl, rfl⟩))
  have hb7 : Below w6.heap.size w6 (((w6.alloc (partCells p)).alloc (nameRow N)).drew) := (below_new (below_new (Below.refl _ _) _) _).drew
  generalize ((w6.alloc (partCells p)).alloc (nameRow N)).drew = w7 at hb7 ⊢
  have H7 := Lib.hid (HP1.out.below hb7)
  clear hb7 HP1 HPN PN RL m0 m1 m2 K HROW HMAP hN HC
  go_wp2_with fail
  go_loopw [16] (fun i wr => ∃ k : Nat, k ≤ C.length ∧ i = .int .i64 k ∧ Hid (HangAt wk Bo Bh (hangV Bo Bc Bh) (l ++ [p] ++ (C.take k).flatMap h) wr)) (fun i _ => C.length - (intOf i).toNat)
  case atStart => exact ⟨0, Nat.zero_le _, rfl, by show HangAt _ _ _ _ _ _; simpa using H7.out⟩
  case round =>
    clear H7
    obtain ⟨k, hk, rfl, HA⟩ := hrel
    by_cases hlt : k < C.length
    · obtain ⟨b, o, x, rfl, hb, hx, hld⟩ := HRD.out.part hlt
      obtain ⟨c0, c1, c2, c3, c4, c5, c6, c7, c8, c9, c10⟩ := hld wr HA.out.bel
      obtain ⟨w8, hw8⟩ : ∃ w8, w8 = wr.alloc (partCells x) := ⟨_, rfl⟩
      have bb : Below wr.heap.size wr w8 := by rw [hw8]; exact below_new (Below.refl _ _) _
      have hnew : w8.heap[wr.heap.size]? = some (partCells x) := by rw [hw8]; exact heap_alloc_new _ _
      have H8 := HA.out.below bb
      have hq := (one_row10 H8.bh).1
      obtain ⟨e0, e1, e2, e3, e4, e5, e6, e7, e8, e9, e10⟩ := part_row hnew
      have hst := Lib.hid (flat_takeT (h := h) hx)
      have hbd : (l ++ [p] ++ (C.take k).flatMap h ++ h x).length ≤ 4294967000 := by
        have h1 := flat_takeT_le (h := h) (C := C) (k + 1)
        rw [hst.out, List.length_append] at h1
        have h2 := HN.out
        simp only [List.length_append, List.length_cons, List.length_nil]
        omega
      have CX := Lib.hid (HIH.out x (List.mem_of_getElem? hx) _ w8 H8 hbd)
      clear hld hx bb hnew H8 hbd HA
      replace hw8 := Lib.hid hw8
      go_upto_region 5 with fail
      rw [show wr.alloc (partCells x) = w8 from hw8.out.symm]
      clear hw8 c0 c1 c2 c3 c4 c5 c6 c7 c8 c9 c10
      go_wp2_with fail
      refine CX.out.mono ?_
      rintro e w9 ⟨rfl, h9⟩
      have H9 : Hid (HangAt wk Bo Bh (hangV Bo Bc Bh) (l ++ [p] ++ (C.take (k + 1)).flatMap h) w9) := by
        show HangAt _ _ _ _ _ _
        rw [hst.out, ← List.append_assoc]; exact h9
      clear h9 CX hq e0 e1 e2 e3 e4 e5 e6 e7 e8 e9 e10
      go_wp2_with fail
      exact ⟨⟨k + 1, by omega, by go_num, H9⟩, by simp [intOf]; omega⟩
    · have hfin : Hid (HangAt wk Bo Bh (hangV Bo Bc Bh) (l ++ p :: C.flatMap h) wr) := by
        have h1 := HA.out
        rw [List.take_of_length_le (by omega), List.append_assoc] at h1
        exact h1
      clear HA
      go_wp2_with fail
      go_end0
      exact ⟨rfl, hfin.out⟩
theorem hang_any (wk : World) (Bo Bc Bh g : Nat) (m : N3 → List P11) (hk : KidsR g m wk) (hc : wk.heap[Bc]? = some (oneRow (.map (some g)) 172)) (hne : Bh ≠ Bo) : ∀ (n : Nat) (p : P11), DeepT m n p → ∀ (l : List P11) (w : World), HangAt wk Bo Bh (hangV Bo Bc Bh) l w → (l ++ hangT m n p).length ≤ 4294967000 →
    Calls Tryz.prog 149 #[p.agg, .pointer (some ⟨Bo, 0, none⟩), .pointer (some ⟨Bc, 0, none⟩), .pointer (some ⟨Bh, 0, none⟩)] w fun e w' => e = .returned (.tuple #[]) ∧ HangAt wk Bo Bh (hangV Bo Bc Bh) (l ++ hangT m n p) w' := by
  intro n
  induction n with
  | zero =>
    intro p hd l w hw hn
    have := hang_step wk Bo Bc Bh g m hk hc hne (fun c => [c]) p [] hd (fun c h => by cases h) l w hw (by simpa [hangT] using hn)
    simpa [hangT] using this
  | succ n ih =>
    intro p hd l w hw hn
    have := hang_step wk Bo Bc Bh g m hk hc hne (hangT m n) p _ rfl (fun c hc => ih c (hd c hc)) l w hw hn
    exact this
end Go.Proofs.YtfljhnalmiibeaaGreat

namespace Go.Proofs.YtfljhnalmiibeaaGreat
set_option maxRecDepth 100000
open Go.RowKit
set_option maxHeartbeats 6400000 in
theorem ordered2_any (A : Option Addr) (n c : Nat) (L : List P11) (w : World) (h : RdP w A n c L) (hn : n ≤ 4294967000) (hw : WholeT L) :
    Calls Tryz.prog 116 #[.slice A n c] w fun e w' => ∃ A' c', e = .returned (.slice A' n c') ∧ RdP w' A' n c' (ordT L) ∧ Below w.heap.size w w' ∧ ∀ a, A' = some a → w.heap.size ≤ a.block := by
  obtain ⟨m, hm⟩ : ∃ m, Hid (kidsT (srtT L) = m) := ⟨_, rfl⟩
  obtain ⟨C, hC⟩ : ∃ C, Hid (m zN = C) := ⟨_, rfl⟩
  obtain ⟨O, hO⟩ : ∃ O, Hid (ordT L = O) := ⟨_, rfl⟩
  have hL := h.len
  have hO2 : Hid (C.flatMap (hangT m n) = O) := by show _ = _; rw [← hO.out, ordT, hm.out, hC.out, hL]
  have hOl : Hid (O.length = n) := by show _ = _; rw [← hO.out, ordT_len hw, hL]
  have hdeep : Hid (∀ x ∈ C, DeepT m n x) := fun x hx => by
    have := deep_root hw (c := x) (by rw [hm.out, hC.out]; exact hx)
    rwa [hm.out, hL] at this
  have CH : Hid (Calls Tryz.prog 148 #[.slice A n c] w fun e w' => ∃ g, w.heap.size ≤ g ∧ e = .returned (.map (some g)) ∧ KidsR g m w' ∧ Below w.heap.size w w') := by
    have := childrenOf_any A n c L w h hn hw.2.1
    rw [hm.out] at this
    exact this
  rw [hO.out]
  have HN := Lib.hid hn
  have hle := h.le
  obtain ⟨i0, hi0, hz0, hz1, hz2⟩ := info_parts Tryz.infoPart
  have HI := Lib.hid hi0; have HZ0 := Lib.hid hz0; have HZ1 := Lib.hid hz1; have HZ2 := Lib.hid hz2
  clear h hn hw hL hi0 hz0 hz1 hz2
  go_enter Tryz.func116, Tryz.ntmps116
  go_wp2_with fail
  refine CH.out.mono ?_
  rintro e w1 ⟨g, hg, rfl, hk1, b1⟩
  obtain ⟨w2, hw2⟩ : ∃ w2, w2 = w1.alloc (oneRow (.map (some g)) 172) := ⟨_, rfl⟩
  have b2 : Below w1.heap.size w1 w2 := by rw [hw2]; exact below_new (Below.refl _ _) _
  have hbc : w2.heap[w1.heap.size]? = some (oneRow (.map (some g)) 172) := by rw [hw2]; exact heap_alloc_new _ _
  have HK := Lib.hid (hk1.below b2)
  have HBC := Lib.hid hbc
  have HB2 := Lib.hid (below_then b1 b2)
  replace hw2 := Lib.hid hw2
  clear CH hg hk1 b1 b2 hbc
  go_upto_region 2 with fail
  rw [show w1.alloc (oneRow (.map (some g)) 172) = w2 from hw2.out.symm]
  clear hw2
  generalize w1.heap.size = Bc at HBC ⊢
  go_upto_region 3 with (at_make; refine wpList_make_own _ rfl _ _ 70 rfl w2.heap.size 105 i0 _ 11 Tryz.underlying70 HI.out HZ0.out HZ1.out .i64 .i64 _ n rfl rfl rfl ?b2 ?b3 ?b4 ?_; rotate_left 3; intro w3 hown hgrow; have b3 := Below.grown (Below.refl w2.heap.size w2) hgrow (Nat.le_refl _) (fun k hk => by cases hk); have HO := Lib.hid hown; have HG := Lib.hid b3; clear hown hgrow b3)
  case b2 => rw [HZ2.out]; have := HN.out; omega
  case b3 => simp only [maxLen]; omega
  case b4 => exact Nat.le_refl _
  obtain ⟨w4, hw4⟩ : ∃ w4, w4 = w3.alloc (oneRow (.slice (some ⟨w2.heap.size, 0, none⟩) 0 n) 70) := ⟨_, rfl⟩
  have b4 : Below w3.heap.size w3 w4 := by rw [hw4]; exact below_new (Below.refl _ _) _
  have hb4 : w4.heap[w3.heap.size]? = some (oneRow (.slice (some ⟨w2.heap.size, 0, none⟩) 0 n) 70) := by rw [hw4]; exact heap_alloc_new _ _
  have hs4 : Hid (w4.heap.size = w3.heap.size + 1) := by rw [hw4]; show _ = _; simp
  have HO4 := Lib.hid (own_below HO.out b4)
  have HG4 := Lib.hid (below_then HG.out b4)
  have HB4 := Lib.hid hb4
  have hlo : Hid (w2.heap.size ≤ w3.heap.size) := HG.out.size
  replace hw4 := Lib.hid hw4
  clear HO HG b4 hb4 HI HZ0 HZ1 HZ2
  rw [show w3.alloc (oneRow (.slice (some ⟨w2.heap.size, 0, none⟩) 0 n) 70) = w4 from hw4.out.symm]
  clear hw4
  generalize w3.heap.size = Bo at HB4 hlo hs4 ⊢
  obtain ⟨w5, hw5⟩ : ∃ w5, w5 = w4.alloc (oneRow .nilFunc 174) := ⟨_, rfl⟩
  have b5 : Below w4.heap.size w4 w5 := by rw [hw5]; exact below_new (Below.refl _ _) _
  have hb5 : w5.heap[w4.heap.size]? = some (oneRow .nilFunc 174) := by rw [hw5]; exact heap_alloc_new _ _
  obtain ⟨q0, q1⟩ := one_row10 hb5
  have HB5 := Lib.hid hb5
  have b5' := Lib.hid b5
  replace hw5 := Lib.hid hw5
  clear b5 hb5
  go_upto_region 4 with fail
  rw [show w4.alloc (oneRow .nilFunc 174) = w5 from hw5.out.symm]
  clear hw5
  go_upto_region 5 with fail
  have HA5 : Hid (HangAt w2 Bo w4.heap.size (hangV Bo Bc w4.heap.size) [] (w5.setCell ⟨w4.heap.size, 0, none⟩ (hangV Bo Bc w4.heap.size))) := by
    have h1 := row_below HB4.out b5'.out
    have h2 := own_below HO4.out b5'.out
    have h3 := hs4.out
    have h4 := hlo.out
    refine ⟨?_, set_one HB5.out _, ⟨_, (setCell_other (by omega) _ _).trans h1, own_block h2 (fun b hb => setCell_other (own_ne_type h2 HB5.out (by decide) hb) _ _)⟩, h4⟩
    exact (below_then HG4.out b5'.out).setCell (by show w2.heap.size ≤ w4.heap.size; omega) _
  have hne : Hid (w4.heap.size ≠ Bo) := by have := hs4.out; show _ ≠ _; omega
  generalize w4.heap.size = Bh at HA5 hne ⊢
  generalize w5.setCell ⟨Bh, 0, none⟩ (hangV Bo Bc Bh) = w6 at HA5 ⊢
  clear q0 q1 HB5 b5' HB4 HO4 HG4 hs4 hlo
  obtain ⟨es, cl, hmap, hkid⟩ := HK.out
  obtain ⟨A1, c1, hrowv, hrd1⟩ := hkid zN
  rw [hC.out] at hrowv hrd1
  have hCl := Lib.hid hrd1.len
  have hle1 := hrd1.le
  have k0 := (one_row10 (row_below HBC.out HA5.out.bel)).1
  have RL : (Instr.lookup 172 (.map (some g)) (.agg #[.int .i64 0, .int .i64 0, .int .i64 0]) false).run Tryz.prog w6 = .ok (.slice A1 C.length c1) w6 := by
    have := run_lookK keyNP (row_below hmap HA5.out.bel) zN
    rw [← hrowv]; exact this
  have HRD1 := Lib.hid hrd1
  have HH := Lib.hid (hang_any w2 Bo Bc Bh g m HK.out HBC.out hne.out n)
  clear hmap hkid hrowv hrd1
  go_wp2_with fail
  go_loopw [18] (fun i wr => ∃ k : Nat, k ≤ C.length ∧ i = .int .i64 k ∧ Hid (HangAt w2 Bo Bh (hangV Bo Bc Bh) ((C.take k).flatMap (hangT m n)) wr)) (fun i _ => C.length - (intOf i).toNat)
  case atStart => exact ⟨0, Nat.zero_le _, rfl, by show HangAt _ _ _ _ _ _; simpa using HA5.out⟩
  case round =>
    clear HA5 k0 RL
    obtain ⟨k, hk, rfl, HA⟩ := hrel
    by_cases hlt : k < C.length
    · obtain ⟨b, o, x, rfl, hb, hx, hld⟩ := HRD1.out.part hlt
      obtain ⟨c0, c1, c2, c3, c4, c5, c6, c7, c8, c9, c10⟩ := hld wr HA.out.bel
      obtain ⟨w8, hw8⟩ : ∃ w8, w8 = wr.alloc (partCells x) := ⟨_, rfl⟩
      have bb : Below wr.heap.size wr w8 := by rw [hw8]; exact below_new (Below.refl _ _) _
      have hnew : w8.heap[wr.heap.size]? = some (partCells x) := by rw [hw8]; exact heap_alloc_new _ _
      have H8 := HA.out.below bb
      have hq := (one_row10 H8.bh).1
      obtain ⟨e0, e1, e2, e3, e4, e5, e6, e7, e8, e9, e10⟩ := part_row hnew
      have hst := Lib.hid (flat_takeT (h := hangT m n) hx)
      have hbd : ((C.take k).flatMap (hangT m n) ++ hangT m n x).length ≤ 4294967000 := by
        have h1 := flat_takeT_le (h := hangT m n) (C := C) (k + 1)
        rw [hst.out, hO2.out, hOl.out] at h1
        have h2 := HN.out
        omega
      have CX := Lib.hid (HH.out x (hdeep.out x (List.mem_of_getElem? hx)) _ w8 H8 hbd)
      clear hld hx bb hnew H8 hbd HA
      replace hw8 := Lib.hid hw8
      go_upto_region 8 with fail
      rw [show wr.alloc (partCells x) = w8 from hw8.out.symm]
      clear hw8 c0 c1 c2 c3 c4 c5 c6 c7 c8 c9 c10
      go_wp2_with fail
      refine CX.out.mono ?_
      rintro e w9 ⟨rfl, h9⟩
      have H9 : Hid (HangAt w2 Bo Bh (hangV Bo Bc Bh) ((C.take (k + 1)).flatMap (hangT m n)) w9) := by
        show HangAt _ _ _ _ _ _
        rw [hst.out]; exact h9
      clear h9 CX hq e0 e1 e2 e3 e4 e5 e6 e7 e8 e9 e10
      go_wp2_with fail
      exact ⟨⟨k + 1, by omega, by go_num, H9⟩, by simp [intOf]; omega⟩
    · have h1 := HA.out
      rw [List.take_of_length_le (by omega), hO2.out] at h1
      obtain ⟨v, h2, h3⟩ := h1.out
      obtain ⟨A6, c6, rfl, h4⟩ := RdG.own_ p11len (by omega) h3
      rw [hOl.out] at h2 h4
      have k4 := (one_row10 h2).1
      have hat : Hid (∀ a, A6 = some a → w.heap.size ≤ a.block) := fun a ha => Nat.le_trans HB2.out.size (h3.lt a.block (by rw [ha]; rfl)).1
      have hfin := Lib.hid h4
      have hfb := Lib.hid (HB2.out.trans (h1.bel.mono HB2.out.size))
      clear HA h1 h2 h3 h4
      go_wp2_with fail
      go_ret
      exact ⟨_, _, rfl, hfin.out, hfb.out, hat.out⟩
theorem ordered_any (A : Option Addr) (n c : Nat) (L : List P11) (w : World) (h : RdP w A n c L) (hn : n ≤ 4294967000) (hw : WholeT L) :
    Calls Tryz.prog 116 #[.slice A n c] w fun e w' => ∃ A' c', e = .returned (.slice A' n c') ∧ RdP w' A' n c' (ordT L) ∧ Below w.heap.size w w' :=
  (ordered2_any A n c L w h hn hw).mono fun _ _ ⟨A', c', h1, h2, h3, _⟩ => ⟨A', c', h1, h2, h3⟩
end Go.Proofs.YtfljhnalmiibeaaGreat

namespace Go.Proofs.YtfljhnalmiibeaaGreat
set_option maxRecDepth 100000
open Go.RowKit
/-- whole, but for what parts stand behind -/
def Good1 (l : List P11) : Prop := (∀ p ∈ l, formedT p = true) ∧ l.Pairwise (fun p q => nm p ≠ nm q) ∧ ∀ p ∈ l, ∀ q ∈ l, p.d = q.d → p.t = q.t
def UpOk (L : List P11) (p : P11) : Prop := upN p = zN ∨ ∃ q ∈ L, nm q = upN p ∧ older q p = true
theorem whole_good (l : List P11) : WholeT l ↔ Good1 l ∧ ∀ p ∈ l, UpOk l p := by
  unfold WholeT Good1 UpOk
  constructor
  · rintro ⟨a, b, c, d⟩; exact ⟨⟨a, b, c⟩, d⟩
  · rintro ⟨⟨a, b, c⟩, d⟩; exact ⟨a, b, c, d⟩
theorem good_nil : Good1 [] := ⟨by simp, by simp, by simp⟩
theorem good_next {l : List P11} {x : P11} (h : Good1 l) (h1 : formedT x = true) (h2 : ∀ p ∈ l, nm p ≠ nm x) (h3 : ∀ p ∈ l, p.d = x.d → p.t = x.t) : Good1 (l ++ [x]) := by
  obtain ⟨a, b, c⟩ := h
  refine ⟨fun p hp => ?_, ?_, fun p hp q hq e => ?_⟩
  · rcases List.mem_append.1 hp with hp | hp
    · exact a p hp
    · rw [List.mem_singleton.1 hp]; exact h1
  · refine List.pairwise_append.2 ⟨b, by simp, fun p hp q hq => ?_⟩
    rw [List.mem_singleton.1 hq]; exact h2 p hp
  · rcases List.mem_append.1 hp with hp | hp <;> rcases List.mem_append.1 hq with hq | hq
    · exact c p hp q hq e
    · rw [List.mem_singleton.1 hq] at e ⊢; exact h3 p hp e
    · rw [List.mem_singleton.1 hp] at e ⊢; exact (h3 q hq e.symm).symm
    · rw [List.mem_singleton.1 hp, List.mem_singleton.1 hq]
theorem take_succ {L : List P11} {k : Nat} {x : P11} (hx : L[k]? = some x) : L.take (k + 1) = L.take k ++ [x] := by rw [List.take_add_one, hx]; rfl
theorem not_whole1 {L : List P11} {k : Nat} {x : P11} (hx : L[k]? = some x) (h : formedT x = false) : ¬ WholeT L := fun hw => by
  rw [hw.1 x (List.mem_of_getElem? hx)] at h; cases h
theorem not_whole2 {L : List P11} {k : Nat} {x p : P11} (hx : L[k]? = some x) (hp : p ∈ L.take k) (h : nm p = nm x) : ¬ WholeT L := fun hw => by
  obtain ⟨j, hj, e⟩ := List.mem_take_iff_getElem.1 hp
  obtain ⟨hk, e2⟩ := List.getElem?_eq_some_iff.1 hx
  have := List.pairwise_iff_getElem.1 hw.2.1 j k (by omega) hk (by omega)
  rw [e, e2] at this
  exact this h
theorem not_whole3 {L : List P11} {k : Nat} {x p : P11} (hx : L[k]? = some x) (hp : p ∈ L.take k) (h : p.d = x.d) (ht : p.t ≠ x.t) : ¬ WholeT L := fun hw =>
  ht (hw.2.2.1 p (List.mem_of_mem_take hp) x (List.mem_of_getElem? hx) h)
theorem not_whole4 {L : List P11} {k : Nat} {x : P11} (hx : L[k]? = some x) (h : ¬ UpOk L x) : ¬ WholeT L := fun hw => h (hw.2.2.2 x (List.mem_of_getElem? hx))
/-- the places of names -/
def placesE : Nat → List P11 → List (EnK N3)
  | _, [] => []
  | i, p :: l => ⟨nm p, .int .i64 (i : Int), i⟩ :: placesE (i + 1) l
theorem placesE_append : ∀ (i : Nat) (l : List P11) (x : P11), placesE i (l ++ [x]) = placesE i l ++ [⟨nm x, .int .i64 ((i + l.length : Nat) : Int), i + l.length⟩]
  | i, [], x => by simp [placesE]
  | i, p :: l, x => by
    rw [List.cons_append, placesE, placesE, placesE_append (i + 1) l x, List.cons_append, List.length_cons]
    rw [show i + 1 + l.length = i + (l.length + 1) by omega]
theorem placesE_born : ∀ (i : Nat) (l : List P11), ∀ e ∈ placesE i l, e.b < i + l.length
  | i, [], e, h => by cases h
  | i, p :: l, e, h => by
    rw [placesE] at h
    rw [List.length_cons]
    rcases List.mem_cons.1 h with rfl | h
    · show i < _; omega
    · have := placesE_born (i + 1) l e h; omega
theorem placesE_look : ∀ (i : Nat) (l : List P11) (n : N3), (lookE (placesE i l) n = none ∧ ∀ p ∈ l, nm p ≠ n) ∨ ∃ j p, lookE (placesE i l) n = some (.int .i64 ((i + j : Nat) : Int)) ∧ l[j]? = some p ∧ nm p = n
  | i, [], n => .inl ⟨rfl, by simp⟩
  | i, p :: l, n => by
    rw [placesE, lookE]
    by_cases h : n = nm p
    · rw [if_pos h]; exact .inr ⟨0, p, by simp, rfl, h.symm⟩
    · rw [if_neg h]
      rcases placesE_look (i + 1) l n with ⟨h1, h2⟩ | ⟨j, q, h1, h2, h3⟩
      · refine .inl ⟨h1, fun q hq => ?_⟩
        rcases List.mem_cons.1 hq with rfl | hq
        · exact fun e => h e.symm
        · exact h2 q hq
      · refine .inr ⟨j + 1, q, ?_, by simpa using h2, h3⟩
        rw [h1, show i + 1 + j = i + (j + 1) by omega]
/-- the times of dots -/
structure TimesE (T : List (EnK D2)) (l : List P11) (tm : D2 → Option Int) : Prop where
  look : ∀ d, lookE T d = (tm d).map (Value.int .i64)
  has : ∀ p ∈ l, tm p.d = some p.t
  from_ : ∀ d t, tm d = some t → ∃ p ∈ l, p.d = d ∧ p.t = t
theorem times_nil : TimesE [] [] (fun _ => none) := ⟨fun _ => rfl, by simp, fun _ _ h => by cases h⟩
theorem TimesE.next {T : List (EnK D2)} {l : List P11} {tm : D2 → Option Int} (h : TimesE T l tm) (x : P11) (c : Nat) (hx : ∀ p ∈ l, p.d = x.d → p.t = x.t) : TimesE (putE T x.d (.int .i64 x.t) c) (l ++ [x]) (fun d => if d = x.d then some x.t else tm d) := by
  refine ⟨fun d => ?_, fun p hp => ?_, fun d t ht => ?_⟩
  · rw [lookE_put, h.look]
    by_cases hd : d = x.d
    · rw [if_pos hd, if_pos hd]; rfl
    · rw [if_neg hd, if_neg hd]
  · rcases List.mem_append.1 hp with hp | hp
    · by_cases hd : p.d = x.d
      · rw [if_pos hd, hx p hp hd]
      · rw [if_neg hd]; exact h.has p hp
    · rw [List.mem_singleton.1 hp, if_pos rfl]
  · replace ht : (if d = x.d then some x.t else tm d) = some t := ht
    by_cases hd : d = x.d
    · rw [if_pos hd] at ht
      injection ht with ht
      exact ⟨x, by simp, hd.symm, ht⟩
    · rw [if_neg hd] at ht
      obtain ⟨p, hp, h1⟩ := h.from_ d t ht
      exact ⟨p, List.mem_append_left _ hp, h1⟩
/-- but for two blocks a world is as it was -/
structure OffM (g h : Nat) (w W : World) : Prop where
  os : W.os = w.os
  tape : W.tape = w.tape
  output : W.output = w.output
  size : w.heap.size ≤ W.heap.size
  block : ∀ k, k < w.heap.size → k ≠ g → k ≠ h → W.heap[k]? = w.heap[k]?
theorem OffM.refl (g h : Nat) (w : World) : OffM g h w w := ⟨rfl, rfl, rfl, Nat.le_refl _, fun _ _ _ _ => rfl⟩
theorem OffM.trans {g h : Nat} {a b c : World} (x : OffM g h a b) (y : OffM g h b c) : OffM g h a c :=
  ⟨y.os.trans x.os, y.tape.trans x.tape, y.output.trans x.output, Nat.le_trans x.size y.size, fun k hk h1 h2 => (y.block k (Nat.lt_of_lt_of_le hk x.size) h1 h2).trans (x.block k hk h1 h2)⟩
theorem OffM.of {g h : Nat} {a b : World} (x : Below a.heap.size a b) : OffM g h a b := ⟨x.os, x.tape, x.output, x.size, fun k hk _ _ => x.block k hk⟩
theorem OffM.alloc {g h : Nat} {a b : World} (x : OffM g h a b) (o : Obj) : OffM g h a (b.alloc o) := x.trans (.of (below_new (Below.refl _ _) _))
theorem OffM.drew {g h : Nat} {a b : World} (x : OffM g h a b) : OffM g h a b.drew := x.trans (.of (Below.refl _ _).drew)
theorem OffM.putL {g h : Nat} {a b : World} (x : OffM g h a b) (o : Obj) : OffM g h a (putBlock b g o) :=
  x.trans ⟨rfl, rfl, rfl, by rw [putBlock_size]; exact Nat.le_refl _, fun k _ h1 _ => putBlock_other _ _ h1⟩
theorem OffM.putR {g h : Nat} {a b : World} (x : OffM g h a b) (o : Obj) : OffM g h a (putBlock b h o) :=
  x.trans ⟨rfl, rfl, rfl, by rw [putBlock_size]; exact Nat.le_refl _, fun k _ _ h2 => putBlock_other _ _ h2⟩
theorem OffM.below {g h B : Nat} {a b : World} (x : OffM g h a b) (hB : B ≤ a.heap.size) (hg : B ≤ g) (hh : B ≤ h) : Below B a b := ⟨x.os, x.tape, x.output, x.size, fun k hk => x.block k (by omega) (by omega) (by omega)⟩
end Go.Proofs.YtfljhnalmiibeaaGreat

namespace Go.Proofs.YtfljhnalmiibeaaGreat
set_option maxRecDepth 100000
open Go.RowKit
set_option maxHeartbeats 1600000 in
theorem formed_any (p : P11) (w : World) : Calls Tryz.prog 145 #[p.agg] w fun e w' => e = .returned (.bool (formedT p)) ∧ Grown w w' := by
  obtain ⟨w1, hw1⟩ : ∃ w1, w1 = w.alloc (partCells p) := ⟨_, rfl⟩
  have h0 : w1.heap[w.heap.size]? = some (partCells p) := by rw [hw1]; exact heap_alloc_new _ _
  obtain ⟨x0, x1, x2, x3, x4, x5, x6, x7, x8, x9, x10⟩ := part_row h0
  have B : Hid (Grown w w1) := by rw [hw1]; exact (Grown.refl _).alloc _
  have ST := Lib.hid (fun W => stampOf_any p W)
  obtain ⟨r, hr, RS⟩ : ∃ r, Hid (rightSt (stP p) = r) ∧ Hid (∀ W, Calls Tryz.prog 172 #[(stP p).agg] W fun e w' => e = .returned (.bool r) ∧ Grown W w') := ⟨_, rfl, fun W => rightStamp_any _ W⟩
  obtain ⟨q, hq⟩ : ∃ q, Hid (decide (p.v = ⟨1, p.v.n, ⟨#[]⟩⟩) = q) := ⟨_, rfl⟩
  have EQ : ∀ W, (Op.equalIn 10000 68 (.agg #[.int .i64 p.v.k, .int .i64 p.v.n, .string p.v.s]) (.agg #[.int .i64 1, .int .i64 p.v.n, .string ⟨#[]⟩])).run Tryz.prog W = .ok q W := fun W => by rw [← hq.out]; exact run_equalIn_valF 9998 p.v ⟨1, p.v.n, ⟨#[]⟩⟩ W
  obtain ⟨F, hF⟩ : ∃ F, Hid (formedT p = F) := ⟨_, rfl⟩
  have hF2 : Hid ((q && (decide (0 ≤ p.v.n ∧ p.v.n ≤ 255) && (decide (0 ≤ p.i ∧ p.i < 2000) && r))) = F) := by
    show _ = _
    rw [← hF.out, ← hq.out, ← hr.out]; rfl
  rw [hF.out]
  replace hw1 := Lib.hid hw1
  clear h0 hF hq hr
  cases q with
  | false =>
    have HF : Hid (false = F) := by show _ = _; rw [← hF2.out]; rfl
    clear ST RS
    go_enter Tryz.func145, Tryz.ntmps145
    go_upto_region 1 with fail
    rw [show w.alloc (partCells p) = w1 from hw1.out.symm]
    clear hw1
    go_wp2_with fail
    go_ret
    exact ⟨ret_bool HF.out, B.out⟩
  | true =>
  by_cases h0 : 0 ≤ p.v.n
  rotate_left
  · have HF : Hid (false = F) := by show _ = _; rw [← hF2.out]; simp [h0]
    have hd0 : decide (0 ≤ p.v.n) = false := decide_eq_false h0
    clear ST RS
    go_enter Tryz.func145, Tryz.ntmps145
    go_upto_region 1 with fail
    rw [show w.alloc (partCells p) = w1 from hw1.out.symm]
    clear hw1
    go_wp2_with fail
    go_ret
    exact ⟨ret_bool HF.out, B.out⟩
  have hd0 : decide (0 ≤ p.v.n) = true := decide_eq_true h0
  by_cases h1 : p.v.n ≤ 255
  rotate_left
  · have HF : Hid (false = F) := by show _ = _; rw [← hF2.out]; simp [h0, h1]
    have hd1 : decide (p.v.n ≤ 255) = false := decide_eq_false h1
    clear ST RS
    go_enter Tryz.func145, Tryz.ntmps145
    go_upto_region 1 with fail
    rw [show w.alloc (partCells p) = w1 from hw1.out.symm]
    clear hw1
    go_wp2_with fail
    go_ret
    exact ⟨ret_bool HF.out, B.out⟩
  have hd1 : decide (p.v.n ≤ 255) = true := decide_eq_true h1
  by_cases h2 : 0 ≤ p.i
  rotate_left
  · have HF : Hid (false = F) := by show _ = _; rw [← hF2.out]; simp [h0, h1, h2]
    have hd2 : decide (0 ≤ p.i) = false := decide_eq_false h2
    clear ST RS
    go_enter Tryz.func145, Tryz.ntmps145
    go_upto_region 1 with fail
    rw [show w.alloc (partCells p) = w1 from hw1.out.symm]
    clear hw1
    go_wp2_with fail
    go_ret
    exact ⟨ret_bool HF.out, B.out⟩
  have hd2 : decide (0 ≤ p.i) = true := decide_eq_true h2
  by_cases h3 : p.i < 2000
  rotate_left
  · have HF : Hid (false = F) := by show _ = _; rw [← hF2.out]; simp [h0, h1, h2, h3]
    have hd3 : decide (p.i < 2000) = false := decide_eq_false h3
    clear ST RS
    go_enter Tryz.func145, Tryz.ntmps145
    go_upto_region 1 with fail
    rw [show w.alloc (partCells p) = w1 from hw1.out.symm]
    clear hw1
    go_wp2_with fail
    go_ret
    exact ⟨ret_bool HF.out, B.out⟩
  have hd3 : decide (p.i < 2000) = true := decide_eq_true h3
  have HF : Hid (r = F) := by show _ = _; rw [← hF2.out]; simp [h0, h1, h2, h3]
  go_enter Tryz.func145, Tryz.ntmps145
  go_upto_region 1 with fail
  rw [show w.alloc (partCells p) = w1 from hw1.out.symm]
  clear hw1
  go_wp2_with fail
  refine (ST.out _).mono ?_
  rintro e w2 ⟨rfl, g2⟩
  have B2 := Lib.hid (B.out.trans g2)
  clear g2 ST x0 x1 x2 x3 x4 x5 x6 x7 x8 x9 x10
  go_wp2_with fail
  refine (RS.out _).mono ?_
  rintro e w3 ⟨rfl, g3⟩
  have B3 := Lib.hid (B2.out.trans g3)
  clear g3 RS
  cases r with
  | true =>
    go_wp2_with fail
    go_ret
    exact ⟨ret_bool HF.out, B3.out⟩
  | false =>
    go_wp2_with fail
    go_ret
    exact ⟨ret_bool HF.out, B3.out⟩
end Go.Proofs.YtfljhnalmiibeaaGreat

