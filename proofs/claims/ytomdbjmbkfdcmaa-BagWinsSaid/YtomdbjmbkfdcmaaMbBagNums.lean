/- Layer 9: numbers of parts are gone through by a range over a function; bag.Has. -/
import Derived.Test.YtomdbjmbkfdcmaaMbBagCol
import Derived.Test.YtomdbjmbkfdcmaaMbBagLib
import Derived.RangeFuncFrom
namespace Go.Proofs.Ytomdbjmbkfdcmaa
set_option maxRecDepth 100000
open Go.RowKit Go.Sort Go.Shelf
attribute [local go_sem] Oper.semAt_some

/-- what an iterator over numbers leans on -/
structure ItN (B1 : Nat) (A : Option Addr) (m c : Nat) (wb W : World) : Prop where
  b1 : Boxed W B1 24 (.slice A m c)
  bel : Below wb.heap.size wb W
theorem ItN.below {B1 : Nat} {A : Option Addr} {m c : Nat} {wb W W' : World} (h : ItN B1 A m c wb W) (hb : Below W.heap.size W W') : ItN B1 A m c wb W' :=
  ⟨(hb.block B1 h.b1.lt).trans h.b1, below_then h.bel hb⟩
theorem ItN.grown {B1 : Nat} {A : Option Addr} {m c : Nat} {wb W W' : World} {row : Option Nat} (h : ItN B1 A m c wb W) (hg : W.grownBy W' row) (h1 : some B1 ≠ row) (h3 : ∀ k, row = some k → wb.heap.size ≤ k) : ItN B1 A m c wb W' :=
  ⟨h.b1.kept hg h1, h.bel.grown hg h.bel.size h3⟩
theorem ItN.put {B1 : Nat} {A : Option Addr} {m c : Nat} {wb w : World} (hw : wb.heap.size ≤ w.heap.size) (W : World) (l : Nat) (o o' : Obj) (hl : w.heap.size ≤ l) (ho : W.heap[l]? = some o) (hc : o.isCells = false) (_ : o.isWalk = false) (h : ItN B1 A m c wb W) : ItN B1 A m c wb (W.putObj l o') :=
  h.grown (grownBy_putObj' W l o') (fun e => by cases e; rw [h.b1] at ho; cases ho; cases hc) (fun k e => by cases e; omega)
theorem numbers_any (A : Option Addr) (n c : Nat) (w : World) : Calls Try.prog 64 #[.slice A n c] w fun e w' =>
    e = .returned (.func (.func 94) #[] #[.pointer (some ⟨w.heap.size, 0, none⟩)]) ∧ w' = w.alloc (.cells #[.slice A n c] 24) := by
  go_enter Try.func64, Try.ntmps64
  go_wp2
  go_ret
  exact ⟨rfl, rfl⟩
theorem itn_new (A : Option Addr) (m c : Nat) (w : World) : ItN w.heap.size A m c w (w.alloc (.cells #[.slice A m c] 24)) := ⟨Boxed.new w _ _, below_new (Below.refl _ _) _⟩
theorem Try.egNumbers1 : ∀ args w, (callFunc 94 args).run Try.prog w = .ok (.enter 94 args) w := enters_of Try.func94 (by kernel_rfl) rfl
abbrev numOf (p : P11) : Int := p.v.n
theorem map_next {L : List P11} {k : Nat} {x : P11} (hx : L[k]? = some x) : (L.take (k + 1)).map numOf = (L.take k).map numOf ++ [x.v.n] := by
  rw [List.take_add_one, hx]; simp

set_option maxHeartbeats 3200000 in
theorem numbers_stops (n : Nat) (hn : 2 ≤ n) (B1 : Nat) (A : Option Addr) (m c : Nat) (L : List P11) (wb w : World) (hrd : RdP wb A m c L) (hI : ItN B1 A m c wb w) :
    SeqStopsK Fence.wide n Try.prog 94 #[.pointer (some ⟨B1, 0, none⟩)] (fun x : Int => #[.int .i64 x])
      (fun X Y => ItN B1 A m c wb X → ItN B1 A m c wb Y) (fun ys => ys = L.map numOf) (fun pre => pre <+: L.map numOf) L.length w := by
  intro l J Jx W hW hJ hJx hY h0
  have HI0 := Lib.hid (hI.below hW)
  have HL := Lib.hid hrd.len
  have HRD := Lib.hid hrd; have HY := Lib.hid hY
  have hle := hrd.le
  have HJ : Hid (∀ s A B, J s A → Below A.heap.size A B → J s B) := fun s A B hs hb => hJ s A B none hs (grown_of_below hb) (fun r e => by cases e)
  have c1 := HI0.out.b1.cell
  have H0 := Lib.hid h0
  clear hI hrd hY hJ hJx hW h0
  refine callsIn_of_wp Try.func94 rfl trivial ?_ rfl
  simp only [Try.ntmps94, List.size_toArray, List.length_cons, List.length_nil, Nat.reduceAdd, Nat.reduceSub, Array.replicate_succ, Array.replicate_zero, List.push_toArray, List.append_toArray, List.nil_append, List.cons_append]
  gi_wp2
  gi_loopw [7] (fun i wr => ∃ (k : Nat) (pre : List Int), k ≤ m ∧ i = .int .i64 k ∧ Hid (pre = (L.take k).map numOf) ∧ Hid (J pre wr) ∧ Hid (ItN B1 A m c wb wr)) (fun i _ => m - (intOf i).toNat)
  case atStart => exact ⟨0, [], Nat.zero_le _, rfl, by show _ = _; simp, H0, HI0⟩
  case round =>
    obtain ⟨k, pre, hk, rfl, hpre, hJs, hIt⟩ := hrel
    by_cases hlt : k < m
    · obtain ⟨b, o, x, rfl, hb, hx, hld⟩ := HRD.out.part hlt
      obtain ⟨c0, c1, c2, c3, c4, c5, c6, c7, c8, c9, c10⟩ := hld wr hIt.out.bel
      have hd2 : Hid (pre ++ [x.v.n] = (L.take (k + 1)).map numOf) := by show _ = _; rw [map_next hx, hpre.out]
      obtain ⟨w2, hw2⟩ : ∃ w2, w2 = wr.alloc (partCells x) := ⟨_, rfl⟩
      have bb : Below wr.heap.size wr w2 := by rw [hw2]; exact below_new (Below.refl _ _) _
      have hnew : w2.heap[wr.heap.size]? = some (partCells x) := by rw [hw2]; exact heap_alloc_new _ _
      have HJ2 := Lib.hid (HJ.out _ _ _ hJs.out bb)
      have HI2 := Lib.hid (hIt.out.below bb)
      obtain ⟨n0, n1, n2, n3, n4, n5, n6, n7, n8, n9, n10⟩ := part_row hnew
      have hlen : pre.length < L.length := by rw [hpre.out, List.length_map, List.length_take, HL.out]; omega
      obtain ⟨fn, tmps, assign, body, hy, hR⟩ := HY.out pre x.v.n w2 HJ2.out hlen
      replace hw2 := Lib.hid hw2
      clear hld hx hnew bb hlen
      gi_upto_region 3 with fail
      rw [show wr.alloc (Obj.cells #[Value.int .i64 x.v.k, .int .i64 x.v.n, .string x.v.s, .int .i64 x.d.d, .int .i64 x.d.s, .int .i64 x.i, .int .i64 x.t, .int .i64 x.a.d, .int .i64 x.a.s, .int .i64 x.j, .bool x.g] 30) = w2 from hw2.out.symm]
      clear hw2 c0 c1 c2 c3 c4 c5 c6 c7 c8 c9 c10
      gi_wp2_with fail
      refine ⟨fun _ => by omega, hR.mono ?_⟩
      rintro e w4 (⟨rfl, hJ4, hk4⟩ | ⟨rfl, hJx4⟩)
      · have HI4 := Lib.hid (hk4 HI2.out)
        have HJ4 := Lib.hid hJ4
        gi_wp2_with fail
        go_roundw
        case rel => exact ⟨k + 1, pre ++ [x.v.n], by omega, by go_num, hd2, HJ4, HI4⟩
        case measure => simp [intOf]; omega
      · gi_wp2_with fail
        refine bodyPost_ret (results_none rfl _ _ _) rfl ?_
        exact ⟨⟨_, rfl⟩, .inr ⟨pre ++ [x.v.n], by rw [hd2.out]; exact (List.take_prefix _ _).map _, hJx4⟩⟩
    · have hfin : Hid (pre = L.map numOf) := by
        show _ = _
        have h1 := HL.out
        rw [hpre.out, List.take_of_length_le (by omega)]
      gi_wp2_with fail
      go_end0
      exact ⟨⟨_, rfl⟩, .inl ⟨pre, hfin.out, hJs.out⟩⟩

theorem hasB_map (l : List P11) (z : Int) : hasB l z = decide (z ∈ l.map numOf) := by
  refine Bool.eq_iff_iff.2 ?_
  rw [hasB_iff, decide_eq_true_eq, List.mem_map]

set_option maxHeartbeats 6400000 in
theorem hasB_any (ka : Int) (va : V3) (A : Option Addr) (m c : Nat) (l : List P11) (z : Int) (w : World) (h : RdP w A m c l) :
    Calls Try.prog 23 #[cellV ka va (.slice A m c), .int .i64 z] w fun e w' => e = .returned (.bool (hasB l z)) ∧ Below w.heap.size w w' := by
  rw [hasB_map]
  obtain ⟨w1, hw1⟩ : ∃ w1, w1 = ((w.alloc (cellRow ka va (.slice A m c))).alloc (.cells #[.int .i64 z] 3)).alloc (.cells #[.bool false] 4) := ⟨_, rfl⟩
  have hb1 : Below w.heap.size w w1 := by rw [hw1]; exact below_new (below_new (below_new (Below.refl _ _) _) _) _
  have hs1 : w1.heap.size = w.heap.size + 3 := by rw [hw1]; simp
  have h2 : w1.heap[w.heap.size]? = some (cellRow ka va (.slice A m c)) := by rw [hw1]; exact old_at _ (old_at _ (heap_alloc_new w _))
  have h3 : Boxed w1 (w.heap.size + 1) 3 (.int .i64 z) := by rw [hw1]; exact old_at _ (new_at _ _ _ (by simp))
  have h4 : Boxed w1 (w.heap.size + 1 + 1) 4 (.bool false) := by rw [hw1]; exact new_at _ _ _ (by simp)
  obtain ⟨w2, hw2⟩ : ∃ w2, w2 = w1.alloc (.cells #[.slice A m c] 24) := ⟨_, rfl⟩
  have b2 : Below w1.heap.size w1 w2 := by rw [hw2]; exact below_new (Below.refl _ _) _
  have hs2 : w2.heap.size = w.heap.size + 4 := by rw [hw2, World.size_alloc, hs1]
  have hit := itn_new A m c w1
  rw [← hw2] at hit
  have hseq := numbers_stops 7 (by omega) w1.heap.size A m c l w1 w2 (h.below hb1) hit
  have hB2 : Below w.heap.size w w2 := below_then hb1 b2
  have H3 : Boxed w2 (w.heap.size + 1) 3 (.int .i64 z) := row_below h3 b2
  have H4 : Boxed w2 (w.heap.size + 1 + 1) 4 (.bool false) := row_below h4 b2
  have NU := Lib.hid (fun (A : Option Addr) (n c : Nat) (W : World) => numbers_any A n c W)
  obtain ⟨c0, c1, c2, c3, c4⟩ := cell_row5 h2
  replace hw1 := Lib.hid hw1; replace hw2 := Lib.hid hw2
  have hl := h.len
  have HS1 := Lib.hid hs1; have HS2 := Lib.hid hs2
  clear h h2 h3 h4 hb1 b2 hit hs1 hs2
  refine (callsIn_wide (n := 8)).1 ?_
  refine callsIn_of_wp_marks Try.func23 rfl trivial ?_ rfl
  simp only [Try.ntmps23, List.size_toArray, List.length_cons, List.length_nil, Nat.reduceAdd, Nat.reduceSub, Array.replicate_succ, Array.replicate_zero, List.push_toArray, List.append_toArray, List.nil_append, List.cons_append]
  refine wpIn_wide.2 ?_
  go_upto_region 1 with fail
  rw [show ((w.alloc (cellRow ka va (.slice A m c))).alloc (.cells #[.int .i64 z] 3)).alloc (.cells #[.bool false] 4) = w1 from hw1.out.symm]
  clear hw1
  go_wp2_with fail
  refine (NU.out _ _ _ _).mono ?_
  rintro e w2' ⟨rfl, hw2'⟩
  rw [← hw2.out] at hw2'
  subst hw2'
  obtain ⟨w2, rfl⟩ : ∃ x, x = w2' := ⟨_, rfl⟩
  clear hw2 NU c0 c1 c2 c3 c4
  go_wp2_with fail
  have hs1 := HS1.out; have hs2 := HS2.out
  refine (wpIn_wide (n := 8)).1 ?_
  refine wpIn_rangeFunc_ownF rfl (by omega) (gf := 94) (lb := #[.pointer (some ⟨w1.heap.size, 0, none⟩)]) rfl trivial Try.egNumbers1 hseq (fun h1 h2 h => h2 (h1 h)) (fun W l o o' hl ho hc hw h => ItN.put (by omega) W l o o' hl ho hc hw h) (Below.refl _ _) (fun _ => rfl)
    (fun pre W => ((∀ y ∈ pre, y ≠ z) ∧ W.cell? ⟨w.heap.size + 1, 0, none⟩ = some (.int .i64 z) ∧ W.cell? ⟨w.heap.size + 1 + 1, 0, none⟩ = some (.bool false) ∧ W.frozen? ⟨w.heap.size + 1 + 1, 0, none⟩ = false) ∧ Below w.heap.size w W)
    (fun c pre W => (c = .ret ∧ z ∈ pre ∧ W.cell? ⟨w.heap.size + 1 + 1, 0, none⟩ = some (.bool true)) ∧ Below w.heap.size w W)
    (OwnFrom.and (Own.from (fun s A B row hs hg hr => ⟨hs.1, cell_kept hs.2.1 hg hr, cell_kept hs.2.2.1 hg hr, (frozen_kept hs.2.2.1 hg hr).trans hs.2.2.2⟩) _) (ownFrom_below (Nat.le_refl _) (by omega)))
    (fun c => OwnFrom.and (Own.from (fun s A B row hs hg hr => ⟨hs.1, hs.2.1, cell_kept hs.2.2 hg hr⟩) _) (ownFrom_below (Nat.le_refl _) (by omega)))
    ⟨⟨by simp, H3.cell, H4.cell, H4.frozen⟩, hB2⟩
    (fun x => { tmps := #[cellV ka va (.slice A m c), .int .i64 z, .pointer (some ⟨w.heap.size, 0, none⟩), .pointer (some ⟨w.heap.size + 1, 0, none⟩), .pointer (some ⟨w.heap.size + 1 + 1, 0, none⟩), .int .i64 x, .pointer (some ⟨w.heap.size, 4, none⟩), .slice A m c, .func (.func 94) #[] #[.pointer (some ⟨w1.heap.size, 0, none⟩)], .int .i64 x, undef, undef, undef], defers := [] }) ?assign ?body ?done ?stop
  case assign =>
    intro l x W K hK
    clear hseq hs1 hs2
    gi_wp2
    exact hK
  case body =>
    rintro l pre x W ⟨⟨hp, hcw, hcr, hfr⟩, hB⟩ _
    clear hseq hs1 hs2
    by_cases hx : x = z
    · subst hx
      gi_wp2_with fail
      exact ⟨KeepsOthers.setCell _ _ _, ⟨rfl, List.mem_append.2 (.inr (by simp)), World.cell?_setCell_same' _ _ _ (by rw [hcr]; rfl)⟩, hB.setCell (p := ⟨w.heap.size + 1 + 1, 0, none⟩) (by simp; omega) _⟩
    · have hxb : (x == z) = false := by simpa using hx
      gi_wp2_with fail
      exact ⟨KeepsOthers.refl _, id, ⟨fun y hy => (List.mem_append.1 hy).elim (hp y) (fun e e' => by simp at e; subst e; exact hx e'), hcw, hcr, hfr⟩, hB⟩
  case done =>
    rintro D ys W hD rfl ⟨⟨hne, _, hcr, hfr⟩, hB⟩ hK
    clear hseq hs1
    replace hs2 := Lib.hid hs2
    go_wp2_with fail
    replace hs2 := hs2.out
    have hK' := (KeepsOthers.setCell W ⟨w.heap.size + 1 + 1, 0, none⟩ (.bool false)).same D _ hK rfl
    refine ⟨by simp, .inl ⟨_, _, rfl, run_takeDeferred hK', ?_⟩⟩
    have hc5 := cell_kept (World.cell?_setCell_same' W ⟨w.heap.size + 1 + 1, 0, none⟩ (.bool false) (by rw [hcr]; rfl)) (grownBy_putObj' _ D (.deferred none)) (fun r e => by cases e; exact ⟨_, hK', rfl⟩)
    refine ⟨.bool false, ?_, by rw [decide_eq_false (fun h => hne z h rfl)], (hB.setCell (p := ⟨w.heap.size + 1 + 1, 0, none⟩) (by simp; omega) _).trans (belowK_b (w := w) (Nat.le_refl _) _ D _ _ (by omega) hK' rfl rfl)⟩
    simp [results, Try.f23, go_sem, hc5]
  case stop =>
    rintro D c pre W hD hpre ⟨⟨rfl, hin, hcr⟩, hB⟩ hK
    clear hseq hs1
    replace hs2 := Lib.hid hs2
    refine wpIn_wide.2 ?_
    go_wp2_with fail
    replace hs2 := hs2.out
    refine ⟨by simp, .inl ⟨_, _, rfl, run_takeDeferred hK, ?_⟩⟩
    have hc5 := cell_kept hcr (grownBy_putObj' _ D (.deferred none)) (fun r e => by cases e; exact ⟨_, hK, rfl⟩)
    refine ⟨.bool true, ?_, by rw [decide_eq_true (hpre.subset hin)], hB.trans (belowK_b (w := w) (Nat.le_refl _) W D _ _ (by omega) hK rfl rfl)⟩
    simp [results, Try.f23, go_sem, hc5]
end Go.Proofs.Ytomdbjmbkfdcmaa

