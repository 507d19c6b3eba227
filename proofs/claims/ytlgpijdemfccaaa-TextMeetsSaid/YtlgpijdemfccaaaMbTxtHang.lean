/- Layer 10: what hangs on a part: a closure that calls itself, over a map of children. -/
import Derived.Test.YtlgpijdemfccaaaMbKids
import Derived.Deep.RegionHeld3
namespace Go.Proofs.Ytlgpijdemfccaaa
set_option maxRecDepth 100000
open Go.RowKit

abbrev oneRow (v : Value) (t : TypeId) : Obj := .cells #[v] t
theorem one_row {w : World} {g : Nat} {v : Value} {t : TypeId} (h : w.heap[g]? = some (oneRow v t)) : w.cell? ⟨g, 0, none⟩ = some v ∧ w.frozen? ⟨g, 0, none⟩ = false := ⟨by rw [cell_row h]; rfl, frozen_row h 0⟩
theorem set_one {w : World} {g : Nat} {v : Value} {t : TypeId} (h : w.heap[g]? = some (oneRow v t)) (x : Value) : (w.setCell ⟨g, 0, none⟩ x).heap[g]? = some (oneRow x t) := by rw [set_row h 0]; rfl
theorem setCell_other {w : World} {g k : Nat} (hne : k ≠ g) (j : Nat) (x : Value) : (w.setCell ⟨g, j, none⟩ x).heap[k]? = w.heap[k]? := by
  show (w.heap.modify g _)[k]? = _
  rw [Array.getElem?_modify, if_neg (fun e => hne e.symm)]
theorem setCell_size (w : World) (g j : Nat) (x : Value) : (w.setCell ⟨g, j, none⟩ x).heap.size = w.heap.size := by simp [World.setCell]
/-- a row's block holds elements of its type -/
theorem own_ne_type {w : World} {base : Nat} {e : TypeId} {size : Nat} {v : Value} {n : Nat} {xs : List Value} (h : w.ownsRow base e size v n xs) {g b : Nat} {cs : Array Value} {t : TypeId} (hm : w.heap[g]? = some (.cells cs t)) (ht : t ≠ e) (hb : v.ownBlock = some b) : b ≠ g := by
  rintro rfl
  rcases h.2 with ⟨rfl, _⟩ | ⟨g, cap, cur, rfl, _, hh, _⟩
  · cases hb
  · cases hb
    rw [hm] at hh
    injection hh with hh
    injection hh with _ h2
    exact ht h2

/-- a part more, behind a row of the call's own: where it lies is told -/
theorem wpList_pushT {w : World} {ops : Array Oper} {rest : List Oper} {o : Oper} {a : Act} {Q : Exit → Act → World → Prop} (hgd : o.guard = none) (s x : Operand)
    (ho : o.op = .call { callee := .builtin .append, args := #[s, x], argTypes := #[24, 24] })
    (base : Nat) (v : Value) (n : Nat) (l : List P11) (u : P11) (g : Nat) (hg : w.heap.size = g) (hx : a.eval x = .slice (some ⟨g, 0, none⟩) 1 1)
    (hs : a.eval s = v) (hown : w.ownsRow base 45 11 v n (l.flatMap P11.cells)) (hn : n < 4294967296) (hbase : base ≤ w.heap.size)
    (h : ∀ v' w', w'.ownsRow base 45 11 v' (n + 1) ((l ++ [u]).flatMap P11.cells) → (w.alloc (partCells u)).grownBy w' v.ownBlock → wpList Try.prog ops Q rest (a.put o.dst v') w') :
    wpList Try.prog ops Q (o :: rest) a (w.alloc (partCells u)) := by
  subst hg
  obtain ⟨i0, hi0, hz0, hz1, hz2⟩ := info_parts Try.infoPart
  refine wpList_append_own _ hgd s x 24 ho base 45 i0 _ 11 96 Try.underlying24 hi0 hz0 hz1 hz2 rfl (by omega) v n (l.flatMap P11.cells) hs (hown.alloc _) ⟨w.heap.size, 0, none⟩ 1 1 u.cells hx rfl ?_
    (p11one u) (by simp only [maxLen]; omega) (by omega) (by simp; omega) ?_
  · intro j y hj
    rw [Addr.add_lit, Nat.zero_add, cell_row (heap_alloc_new w _)]
    simpa [P11.cells] using hj
  intro v' w' hown' hgrow _
  refine h v' w' ?_ hgrow
  rw [List.flatMap_append]
  simpa using hown'

/-- how the walk down stands: l is told already -/
structure HangAt (wk : World) (Bo Bh : Nat) (hv : Value) (l : List P11) (W : World) : Prop where
  bel : Below wk.heap.size wk W
  bh : W.heap[Bh]? = some (oneRow hv 66)
  out : ∃ v, W.heap[Bo]? = some (oneRow v 24) ∧ W.ownsRow wk.heap.size 45 11 v l.length (l.flatMap P11.cells)
  lo : wk.heap.size ≤ Bo
theorem HangAt.below {wk : World} {Bo Bh : Nat} {hv : Value} {l : List P11} {W W' : World} (h : HangAt wk Bo Bh hv l W) (hb : Below W.heap.size W W') : HangAt wk Bo Bh hv l W' := by
  obtain ⟨v, h1, h2⟩ := h.out
  exact ⟨below_then h.bel hb, row_below h.bh hb, ⟨v, row_below h1 hb, own_below h2 hb⟩, h.lo⟩
theorem HangAt.push {wk : World} {Bo Bh : Nat} {hv : Value} {l : List P11} {W W' : World} {v v' : Value} {p : P11} (h : HangAt wk Bo Bh hv l W) (hne : Bh ≠ Bo) (h1 : W.heap[Bo]? = some (oneRow v 24)) (h2 : W.ownsRow wk.heap.size 45 11 v l.length (l.flatMap P11.cells))
    (hown : W'.ownsRow wk.heap.size 45 11 v' (l.length + 1) ((l ++ [p]).flatMap P11.cells)) (hgr : W.grownBy W' v.ownBlock) : HangAt wk Bo Bh hv (l ++ [p]) (W'.setCell ⟨Bo, 0, none⟩ v') ∧ W'.heap[Bo]? = some (oneRow v 24) := by
  have e1 : W'.heap[Bo]? = some (oneRow v 24) := by
    rw [hgr.block Bo (Array.getElem?_eq_some_iff.1 h1).1 (fun e => own_ne_type h2 h1 (by decide) e.symm rfl), h1]
  have e2 : W'.heap[Bh]? = some (oneRow hv 66) := by
    rw [hgr.block Bh (Array.getElem?_eq_some_iff.1 h.bh).1 (fun e => own_ne_type h2 h.bh (by decide) e.symm rfl), h.bh]
  refine ⟨⟨?_, ?_, ⟨v', set_one e1 v', ?_⟩, h.lo⟩, e1⟩
  · exact (h.bel.grown hgr h.bel.size (fun k hk => (h2.lt k hk).1)).setCell h.lo _
  · rw [setCell_other hne]; exact e2
  · have : (l ++ [p]).length = l.length + 1 := by simp
    rw [this]
    exact own_block hown (fun b hb => setCell_other (own_ne_type hown e1 (by decide) hb) _ _)

abbrev hangV (Bo Bc Bh : Nat) : Value := .func (.func 36) #[] #[.pointer (some ⟨Bo, 0, none⟩), .pointer (some ⟨Bc, 0, none⟩), .pointer (some ⟨Bh, 0, none⟩)]

theorem flat_takeT {h : P11 → List P11} {C : List P11} {k : Nat} {x : P11} (hx : C[k]? = some x) : (C.take (k + 1)).flatMap h = (C.take k).flatMap h ++ h x := by
  rw [List.take_add_one, hx, List.flatMap_append]; simp
theorem flat_takeT_le {h : P11 → List P11} {C : List P11} (k : Nat) : ((C.take k).flatMap h).length ≤ (C.flatMap h).length := by
  conv => rhs; rw [← List.take_append_drop k C, List.flatMap_append, List.length_append]
  omega

set_option maxHeartbeats 6400000 in
theorem hang_step (wk : World) (Bo Bc Bh g : Nat) (m : N3 → List P11) (hk : KidsR g m wk) (hc : wk.heap[Bc]? = some (oneRow (.map (some g)) 64)) (hne : Bh ≠ Bo) (h : P11 → List P11) (p : P11) (C : List P11) (hC : m (nm p) = C)
    (ih : ∀ c ∈ C, ∀ l W, HangAt wk Bo Bh (hangV Bo Bc Bh) l W → (l ++ h c).length ≤ 4294967000 → Calls Try.prog 36 #[c.agg, .pointer (some ⟨Bo, 0, none⟩), .pointer (some ⟨Bc, 0, none⟩), .pointer (some ⟨Bh, 0, none⟩)] W fun e w' => e = .returned (.tuple #[]) ∧ HangAt wk Bo Bh (hangV Bo Bc Bh) (l ++ h c) w')
    (l : List P11) (w : World) (hw : HangAt wk Bo Bh (hangV Bo Bc Bh) l w) (hn : (l ++ p :: C.flatMap h).length ≤ 4294967000) :
    Calls Try.prog 36 #[p.agg, .pointer (some ⟨Bo, 0, none⟩), .pointer (some ⟨Bc, 0, none⟩), .pointer (some ⟨Bh, 0, none⟩)] w fun e w' => e = .returned (.tuple #[]) ∧ HangAt wk Bo Bh (hangV Bo Bc Bh) (l ++ p :: C.flatMap h) w' := by
  obtain ⟨es, cl, hmap, hkid⟩ := hk
  obtain ⟨A, cc, hrowv, hrd⟩ := hkid (nm p)
  rw [hC] at hrowv hrd
  obtain ⟨w1, hw1⟩ : ∃ w1, w1 = w.alloc (partCells p) := ⟨_, rfl⟩
  have bb : Below w.heap.size w w1 := by rw [hw1]; exact below_new (Below.refl _ _) _
  have hnew : w1.heap[w.heap.size]? = some (partCells p) := by rw [hw1]; exact heap_alloc_new _ _
  have HA := Lib.hid (hw.below bb)
  obtain ⟨gp, hgp⟩ : ∃ gp, gp = w.heap.size := ⟨_, rfl⟩
  rw [← hgp] at hnew
  have hgk : Hid (gp < w1.heap.size ∧ wk.heap.size ≤ gp ∧ Bo ≠ gp) := by
    obtain ⟨_, h1, _⟩ := hw.out
    have h3 := (Array.getElem?_eq_some_iff.1 h1).1
    have h4 := hw.bel.size
    exact ⟨(Array.getElem?_eq_some_iff.1 hnew).1, by omega, by omega⟩
  have hCl := Lib.hid hrd.len
  have hle := hrd.le
  have HN : Hid (l.length + 1 + (C.flatMap h).length ≤ 4294967000) := by
    rw [List.length_append, List.length_cons] at hn; show _ ≤ _; omega
  have HRD := Lib.hid hrd; have HMAP := Lib.hid hmap; have HC := Lib.hid hc; have HROW := Lib.hid hrowv
  have HIH := Lib.hid ih; have HNE := Lib.hid hne; have HNEW := Lib.hid hnew
  obtain ⟨v, hv01, hv02⟩ := hw.out
  have hv1 := row_below hv01 bb
  have hv2 := own_below hv02 bb
  have hvlt : Hid (∀ b, v.ownBlock = some b → b < gp) := fun b hb => by rw [hgp]; exact (hv02.lt b hb).2
  obtain ⟨q0, q1⟩ := one_row hv1
  obtain ⟨a0, a1, a2, a3, a4, a5, a6, a7, a8, a9, a10⟩ := part_row hnew
  have HV1 := Lib.hid hv1; have HV2 := Lib.hid hv2
  replace hw1 := Lib.hid hw1
  replace hgp := Lib.hid hgp
  clear ih hrd hmap hc hrowv hkid hne hw hn bb hnew hv1 hv2 hC hv01 hv02
  go_enter Try.func36, Try.ntmps36
  go_upto_region 1 with fail
  rw [show w.alloc (partCells p) = w1 from hw1.out.symm, ← hgp.out]
  clear hw1 hgp
  go_upto_region 2 with (at_builtin; (refine wpList_pushT rfl _ _ rfl wk.heap.size v l.length l p _ rfl rfl rfl HV2.out (by have := HN.out; omega) HA.out.bel.size ?_; intro v5 w5 hw5 hgr5; obtain ⟨A6, c6, rfl, _⟩ := RdG.own_ p11len (by omega) hw5; have hgr6 : w1.grownBy w5 v.ownBlock := ⟨hgr5.os, hgr5.tape, hgr5.output, Nat.le_trans (by simp) hgr5.size, fun k hk hne => (hgr5.block k (by rw [World.size_alloc]; omega) hne).trans (Below.heap_alloc _ _ _ hk)⟩; obtain ⟨hp1, hp2⟩ := HA.out.push HNE.out HV1.out HV2.out hw5 hgr6; have HP1 := Lib.hid hp1; obtain ⟨r0, r1⟩ := one_row hp2; have HPN : Hid ((w5.setCell ⟨Bo, 0, none⟩ (.slice A6 (l.length + 1) c6)).heap[gp]? = some (partCells p)) := (setCell_other (Ne.symm hgk.out.2.2) _ _).trans ((hgr6.block gp hgk.out.1 (fun e => by have := hvlt.out gp e.symm; omega)).trans HNEW.out); clear hw5 hgr5 hgr6 hp1 hp2))
  clear q0 q1 a0 a1 a2 a3 a4 a5 a6 a7 a8 a9 a10
  generalize w5.setCell ⟨Bo, 0, none⟩ (.slice A6 (l.length + 1) c6) = w6 at HP1 HPN ⊢
  clear HA HV1 HV2 hvlt HNEW hgk r0 r1
  obtain ⟨N, hN⟩ : ∃ N, Hid (nm p = N) := ⟨_, rfl⟩
  rw [hN.out] at HROW
  have PN : Hid (∀ W, Calls Try.prog 28 #[p.agg] W fun e w' => e = .returned N.agg ∧ w' = (W.alloc (partCells p)).alloc (nameRow N)) := fun W => by rw [← hN.out]; exact nameOf_is p W
  have RL : ∀ W, AtO g (mapO N3.agg es cl) W → (Instr.lookup 64 (.map (some g)) N.agg false).run Try.prog W = .ok (.slice A C.length cc) W := fun W hW => by
    rw [← HROW.out]; exact run_lookK keyNP hW N
  have m0 : AtO g (mapO N3.agg es cl) w6 := row_below HMAP.out HP1.out.bel
  have m1 := AtO.alloc g N3.agg es cl
  have m2 := AtO.drew g (mapO N3.agg es cl)
  have K : Hid (∀ W, Below w6.heap.size w6 W → W.cell? ⟨Bc, 0, none⟩ = some (.map (some g)) ∧ W.cell? ⟨gp, 0, none⟩ = some (.int .i64 p.v.k) ∧ W.cell? ⟨gp, 1, none⟩ = some (.int .i64 p.v.n) ∧ W.cell? ⟨gp, 2, none⟩ = some (.string p.v.s) ∧ W.cell? ⟨gp, 3, none⟩ = some (.int .i64 p.d.d) ∧ W.cell? ⟨gp, 4, none⟩ = some (.int .i64 p.d.s) ∧ W.cell? ⟨gp, 5, none⟩ = some (.int .i64 p.i) ∧ W.cell? ⟨gp, 6, none⟩ = some (.int .i64 p.t) ∧ W.cell? ⟨gp, 7, none⟩ = some (.int .i64 p.a.d) ∧ W.cell? ⟨gp, 8, none⟩ = some (.int .i64 p.a.s) ∧ W.cell? ⟨gp, 9, none⟩ = some (.int .i64 p.j) ∧ W.cell? ⟨gp, 10, none⟩ = some (.bool p.g)) := fun W hW => ⟨(one_row (row_below HC.out (below_then HP1.out.bel hW))).1, part_row (row_below HPN.out hW)⟩
  go_region_held3 (fun W => W.cell? ⟨Bc, 0, none⟩ = some (.map (some g)) ∧ W.cell? ⟨gp, 0, none⟩ = some (.int .i64 p.v.k) ∧ W.cell? ⟨gp, 1, none⟩ = some (.int .i64 p.v.n) ∧ W.cell? ⟨gp, 2, none⟩ = some (.string p.v.s) ∧ W.cell? ⟨gp, 3, none⟩ = some (.int .i64 p.d.d) ∧ W.cell? ⟨gp, 4, none⟩ = some (.int .i64 p.d.s) ∧ W.cell? ⟨gp, 5, none⟩ = some (.int .i64 p.i) ∧ W.cell? ⟨gp, 6, none⟩ = some (.int .i64 p.t) ∧ W.cell? ⟨gp, 7, none⟩ = some (.int .i64 p.a.d) ∧ W.cell? ⟨gp, 8, none⟩ = some (.int .i64 p.a.s) ∧ W.cell? ⟨gp, 9, none⟩ = some (.int .i64 p.j) ∧ W.cell? ⟨gp, 10, none⟩ = some (.bool p.g))
    (first
      | (refine K.out _ ?_; (repeat (first | exact Below.refl _ _ | refine below_new ?_ _ | refine Below.drew ?_)); done))
    (first
      | (go_at_call 28; refine (PN.out _).mono ?_; rintro e wx ⟨rfl, rfl⟩))
  have hb7 : Below w6.heap.size w6 (((w6.alloc (partCells p)).alloc (nameRow N)).drew) := (below_new (below_new (Below.refl _ _) _) _).drew
  generalize ((w6.alloc (partCells p)).alloc (nameRow N)).drew = w7 at hb7 ⊢
  have H7 := Lib.hid (HP1.out.below hb7)
  clear hb7 HP1 HPN PN RL m0 m1 m2 K HROW HMAP hN HC
  go_wp2_with fail
  go_loopw [16] (fun i wr => ∃ k : Nat, k ≤ C.length ∧ i = .int .i64 k ∧ Hid (HangAt wk Bo Bh (hangV Bo Bc Bh) (l ++ [p] ++ (C.take k).flatMap h) wr)) (fun i _ => C.length - (intOf i).toNat)
  case atStart => exact ⟨0, Nat.zero_le _, rfl, by show HangAt _ _ _ _ _ _; simpa using H7.out⟩
  case round =>
    clear H7
    obtain ⟨k, hk, rfl, HA⟩ := hrel
    by_cases hlt : k < C.length
    · obtain ⟨b, o, x, rfl, hb, hx, hld⟩ := HRD.out.part hlt
      obtain ⟨c0, c1, c2, c3, c4, c5, c6, c7, c8, c9, c10⟩ := hld wr HA.out.bel
      obtain ⟨w8, hw8⟩ : ∃ w8, w8 = wr.alloc (partCells x) := ⟨_, rfl⟩
      have bb : Below wr.heap.size wr w8 := by rw [hw8]; exact below_new (Below.refl _ _) _
      have hnew : w8.heap[wr.heap.size]? = some (partCells x) := by rw [hw8]; exact heap_alloc_new _ _
      have H8 := HA.out.below bb
      have hq := (one_row H8.bh).1
      obtain ⟨e0, e1, e2, e3, e4, e5, e6, e7, e8, e9, e10⟩ := part_row hnew
      have hst := Lib.hid (flat_takeT (h := h) hx)
      have hbd : (l ++ [p] ++ (C.take k).flatMap h ++ h x).length ≤ 4294967000 := by
        have h1 := flat_takeT_le (h := h) (C := C) (k + 1)
        rw [hst.out, List.length_append] at h1
        have h2 := HN.out
        simp only [List.length_append, List.length_cons, List.length_nil]
        omega
      have CX := Lib.hid (HIH.out x (List.mem_of_getElem? hx) _ w8 H8 hbd)
      clear hld hx bb hnew H8 hbd HA
      replace hw8 := Lib.hid hw8
      go_upto_region 5 with fail
      rw [show wr.alloc (partCells x) = w8 from hw8.out.symm]
      clear hw8 c0 c1 c2 c3 c4 c5 c6 c7 c8 c9 c10
      go_wp2_with fail
      refine CX.out.mono ?_
      rintro e w9 ⟨rfl, h9⟩
      have H9 : Hid (HangAt wk Bo Bh (hangV Bo Bc Bh) (l ++ [p] ++ (C.take (k + 1)).flatMap h) w9) := by
        show HangAt _ _ _ _ _ _
        rw [hst.out, ← List.append_assoc]; exact h9
      clear h9 CX hq e0 e1 e2 e3 e4 e5 e6 e7 e8 e9 e10
      go_wp2_with fail
      exact ⟨⟨k + 1, by omega, by go_num, H9⟩, by simp [intOf]; omega⟩
    · have hfin : Hid (HangAt wk Bo Bh (hangV Bo Bc Bh) (l ++ p :: C.flatMap h) wr) := by
        have h1 := HA.out
        rw [List.take_of_length_le (by omega), List.append_assoc] at h1
        exact h1
      clear HA
      go_wp2_with fail
      go_end0
      exact ⟨rfl, hfin.out⟩

theorem hang_any (wk : World) (Bo Bc Bh g : Nat) (m : N3 → List P11) (hk : KidsR g m wk) (hc : wk.heap[Bc]? = some (oneRow (.map (some g)) 64)) (hne : Bh ≠ Bo) : ∀ (n : Nat) (p : P11), DeepT m n p → ∀ (l : List P11) (w : World), HangAt wk Bo Bh (hangV Bo Bc Bh) l w → (l ++ hangT m n p).length ≤ 4294967000 →
    Calls Try.prog 36 #[p.agg, .pointer (some ⟨Bo, 0, none⟩), .pointer (some ⟨Bc, 0, none⟩), .pointer (some ⟨Bh, 0, none⟩)] w fun e w' => e = .returned (.tuple #[]) ∧ HangAt wk Bo Bh (hangV Bo Bc Bh) (l ++ hangT m n p) w' := by
  intro n
  induction n with
  | zero =>
    intro p hd l w hw hn
    have := hang_step wk Bo Bc Bh g m hk hc hne (fun c => [c]) p [] hd (fun c h => by cases h) l w hw (by simpa [hangT] using hn)
    simpa [hangT] using this
  | succ n ih =>
    intro p hd l w hw hn
    have := hang_step wk Bo Bc Bh g m hk hc hne (hangT m n) p _ rfl (fun c hc => ih c (hd c hc)) l w hw hn
    exact this
end Go.Proofs.Ytlgpijdemfccaaa

