/- Layer 10: of Go's library: slices.Values of parts, gone through by a range over a function, and slices.Collect of them. -/
import Derived.Test.YtlgpijdemfccaaaMbMul
import Derived.RangeFuncNested
import Derived.RangeFuncBound
import Derived.RangeFuncCalls
import Derived.RangeFuncLeaves
import Derived.RangeFuncBox
import Derived.Maps.AppendAt
import Derived.Shelf.Abstract
import Derived.Shelf.RegionOpen
import Derived.OwnWalkIn
import Derived.TacticsInMore
import Derived.LoopNIn
import Derived.LoopIn
import Derived.Sort.CutIn
namespace Go.Proofs.Ytlgpijdemfccaaa
set_option maxRecDepth 100000
open Go.RowKit Go.Sort Go.Shelf
attribute [local go_sem] Oper.semAt_some

theorem grown_of_belowT {W W' : World} (h : Below W.heap.size W W') : W.grownBy W' none := ⟨h.os, h.tape, h.output, h.size, fun k hk _ => h.block k hk⟩

/-- what an iterator over a slice of parts leans on: its box, and what lay in wb -/
structure ItT (B1 : Nat) (A : Option Addr) (m c : Nat) (wb W : World) : Prop where
  b1 : Boxed W B1 24 (.slice A m c)
  bel : Below wb.heap.size wb W
theorem ItT.below {B1 : Nat} {A : Option Addr} {m c : Nat} {wb W W' : World} (h : ItT B1 A m c wb W) (hb : Below W.heap.size W W') : ItT B1 A m c wb W' :=
  ⟨(hb.block B1 h.b1.lt).trans h.b1, below_then h.bel hb⟩
theorem ItT.grown {B1 : Nat} {A : Option Addr} {m c : Nat} {wb W W' : World} {row : Option Nat} (h : ItT B1 A m c wb W) (hg : W.grownBy W' row) (h1 : some B1 ≠ row) (h3 : ∀ k, row = some k → wb.heap.size ≤ k) : ItT B1 A m c wb W' :=
  ⟨h.b1.kept hg h1, h.bel.grown hg h.bel.size h3⟩
theorem ItT.put {B1 : Nat} {A : Option Addr} {m c : Nat} {wb w : World} (hw : wb.heap.size ≤ w.heap.size) (W : World) (l : Nat) (o o' : Obj) (hl : w.heap.size ≤ l) (ho : W.heap[l]? = some o) (hc : o.isCells = false) (_ : o.isWalk = false) (h : ItT B1 A m c wb W) : ItT B1 A m c wb (W.putObj l o') :=
  h.grown (grownBy_putObj' W l o') (fun e => by cases e; rw [h.b1] at ho; cases ho; cases hc) (fun k e => by cases e; omega)

theorem valuesT_any (A : Option Addr) (n c : Nat) (w : World) : Calls Try.prog 50 #[.slice A n c] w fun e w' =>
    e = .returned (.func (.func 58) #[] #[.pointer (some ⟨w.heap.size, 0, none⟩)]) ∧ w' = w.alloc (.cells #[.slice A n c] 24) := by
  go_enter Try.func50, Try.ntmps50
  go_wp2
  go_ret
  exact ⟨rfl, rfl⟩
theorem itt_new (A : Option Addr) (m c : Nat) (w : World) : ItT w.heap.size A m c w (w.alloc (.cells #[.slice A m c] 24)) :=
  ⟨Boxed.new w _ _, below_new (Below.refl _ _) _⟩

theorem take_lt {L : List P11} {k : Nat} {x : P11} (hx : L[k]? = some x) : (L.take k).length < L.length := by
  have := (List.getElem?_eq_some_iff.1 hx).1
  rw [List.length_take]; omega
theorem take_stepT {L : List P11} {k : Nat} {x : P11} (hx : L[k]? = some x) : L.take k ++ [x] = L.take (k + 1) := by
  rw [List.take_add_one, hx]; rfl

set_option maxHeartbeats 3200000 in
theorem valuesT_stops (n : Nat) (hn : 2 ≤ n) (B1 : Nat) (A : Option Addr) (m c : Nat) (L : List P11) (wb w : World)
    (hrd : RdP wb A m c L) (hI : ItT B1 A m c wb w) :
    SeqStopsK Fence.wide n Try.prog 58 #[.pointer (some ⟨B1, 0, none⟩)] (fun x : P11 => #[x.agg])
      (fun X Y => ItT B1 A m c wb X → ItT B1 A m c wb Y) (fun ys => ys = L) (fun pre => pre <+: L) L.length w := by
  intro l J Jx W hW hJ hJx hY h0
  have HI0 := Lib.hid (hI.below hW)
  have HL := Lib.hid hrd.len
  have HRD := Lib.hid hrd; have HY := Lib.hid hY
  have hle := hrd.le
  have HJ : Hid (∀ s A B, J s A → Below A.heap.size A B → J s B) := fun s A B hs hb => hJ s A B none hs (grown_of_belowT hb) (fun r e => by cases e)
  have c1 := HI0.out.b1.cell
  have H0 := Lib.hid h0
  clear hI hrd hY hJ hJx hW h0
  refine callsIn_of_wp Try.func58 rfl trivial ?_ rfl
  simp only [Try.ntmps58, List.size_toArray, List.length_cons, List.length_nil, Nat.reduceAdd, Nat.reduceSub, Array.replicate_succ, Array.replicate_zero, List.push_toArray, List.append_toArray, List.nil_append, List.cons_append]
  gi_wp2
  gi_loopw [7] (fun i wr => ∃ (k : Nat) (pre : List P11), k ≤ m ∧ i = .int .i64 k ∧ Hid (pre = L.take k) ∧ Hid (J pre wr) ∧ Hid (ItT B1 A m c wb wr)) (fun i _ => m - (intOf i).toNat)
  case atStart => exact ⟨0, [], Nat.zero_le _, rfl, by show _ = _; simp, H0, HI0⟩
  case round =>
    obtain ⟨k, pre, hk, rfl, hpre, hJs, hIt⟩ := hrel
    by_cases hlt : k < m
    · obtain ⟨b, o, x, rfl, hb, hx, hld⟩ := HRD.out.part hlt
      obtain ⟨c0, c1, c2, c3, c4, c5, c6, c7, c8, c9, c10⟩ := hld wr hIt.out.bel
      have hlen : Hid (pre.length < L.length) := by show _ < _; rw [hpre.out]; exact take_lt hx
      have hd2 : Hid (pre ++ [x] = L.take (k + 1)) := by show _ = _; rw [hpre.out]; exact take_stepT hx
      obtain ⟨w2, hw2⟩ : ∃ w2, w2 = wr.alloc (partCells x) := ⟨_, rfl⟩
      have bb : Below wr.heap.size wr w2 := by rw [hw2]; exact below_new (Below.refl _ _) _
      have hnew : w2.heap[wr.heap.size]? = some (partCells x) := by rw [hw2]; exact heap_alloc_new _ _
      have HJ2 := Lib.hid (HJ.out _ _ _ hJs.out bb)
      have HI2 := Lib.hid (hIt.out.below bb)
      obtain ⟨n0, n1, n2, n3, n4, n5, n6, n7, n8, n9, n10⟩ := part_row hnew
      clear hld hx hnew bb
      replace hw2 := Lib.hid hw2
      gi_upto_region 3 with fail
      rw [show wr.alloc (Obj.cells #[Value.int .i64 x.v.k, .int .i64 x.v.n, .string x.v.s, .int .i64 x.d.d, .int .i64 x.d.s, .int .i64 x.i, .int .i64 x.t, .int .i64 x.a.d, .int .i64 x.a.s, .int .i64 x.j, .bool x.g] 45) = w2 from hw2.out.symm]
      clear hw2 c0 c1 c2 c3 c4 c5 c6 c7 c8 c9 c10
      obtain ⟨fn, tmps, assign, body, hy, hR⟩ := HY.out pre x w2 HJ2.out hlen.out
      clear hlen
      gi_wp2_with fail
      refine ⟨fun _ => by omega, hR.mono ?_⟩
      rintro e w4 (⟨rfl, hJ4, hk4⟩ | ⟨rfl, hJx4⟩)
      · have HI4 := Lib.hid (hk4 HI2.out)
        have HJ4 := Lib.hid hJ4
        gi_wp2_with fail
        go_roundw
        case rel => exact ⟨k + 1, pre ++ [x], by omega, by go_num, hd2, HJ4, HI4⟩
        case measure => simp [intOf]; omega
      · gi_wp2_with fail
        refine bodyPost_ret (results_none rfl _ _ _) rfl ?_
        exact ⟨⟨_, rfl⟩, .inr ⟨pre ++ [x], by rw [hd2.out]; exact List.take_prefix _ _, hJx4⟩⟩
    · have hfin : Hid (pre = L) := by
        show _ = _
        have h1 := HL.out
        rw [hpre.out, List.take_of_length_le (by omega)]
      gi_wp2_with fail
      go_end0
      exact ⟨⟨_, rfl⟩, .inl ⟨pre, hfin.out, hJs.out⟩⟩

theorem Try.egValuesT : ∀ args w, (callFunc 58 args).run Try.prog w = .ok (.enter 58 args) w := enters_of Try.func58 (by kernel_rfl) rfl
theorem cells_ownT {β : Type} (B b : Nat) (o : Obj) (ho : o.isCells = true) : OwnFrom B (fun (_ : β) W => W.heap[b]? = some o) := fun _ X Y row hs hg hrow => by
  refine (hg.block b (Array.getElem?_eq_some_iff.1 hs).1 (fun e' => ?_)).trans hs
  obtain ⟨_, o', ho', hc⟩ := hrow b e'.symm
  rw [hs] at ho'; cases ho'; rw [ho] at hc; cases hc

/-- a part more, behind a row of the call's own, in a round -/
theorem wpListIn_pushT {F : Fence} {n : Nat} {w W0 : World} {ops : Array Oper} {rest : List Oper} {o : Oper} {a : Act} {Q : Exit → Act → World → Prop} (hgd : o.guard = none) (s x : Operand)
    (ho : o.op = .call { callee := .builtin .append, args := #[s, x], argTypes := #[24, 24] })
    (base : Nat) (v : Value) (k : Nat) (l : List P11) (u : P11) (g : Nat) (hg : w.heap.size = g) (hx : a.eval x = .slice (some ⟨g, 0, none⟩) 1 1)
    (hs : a.eval s = v) (hown : w.ownsRow base 45 11 v k (l.flatMap P11.cells)) (hn : k < 4294967296)
    (hbel : Below base W0 w) (hbase : base ≤ w.heap.size)
    (h : ∀ v' w', w'.ownsRow base 45 11 v' (k + 1) ((l ++ [u]).flatMap P11.cells) → (w.alloc (partCells u)).grownBy w' v.ownBlock → Below base W0 w' → base ≤ w'.heap.size → wpListIn F n Try.prog ops Q rest (a.put o.dst v') w') :
    wpListIn F n Try.prog ops Q (o :: rest) a (w.alloc (partCells u)) := by
  subst hg
  obtain ⟨i0, hi0, hz0, hz1, hz2⟩ := info_parts Try.infoPart
  refine wpListIn_append_own _ hgd s x 24 ho base 45 i0 _ 11 96 Try.underlying24 hi0 hz0 hz1 hz2 rfl (by omega) v k (l.flatMap P11.cells) hs (hown.alloc _) ⟨w.heap.size, 0, none⟩ 1 1 u.cells hx rfl ?_
    (p11one u) (by simp only [maxLen]; omega) (by omega) (by simp; omega) ?_
  · intro j y hj
    rw [Addr.add_lit, Nat.zero_add, cell_row (heap_alloc_new w _)]
    simpa [P11.cells] using hj
  intro v' w' hown' hgrow _
  refine h v' w' ?_ hgrow ?_ (by have := hgrow.size; simp at this; omega)
  · rw [List.flatMap_append]
    simpa using hown'
  · exact (hbel.alloc hbase _).grown hgrow (by simp; omega) (fun k hk => (hown.lt k hk).1)

set_option maxHeartbeats 6400000 in
theorem appendSeqT_any (B1 : Nat) (A : Option Addr) (m c : Nat) (L : List P11) (wb w : World) (hrd : RdP wb A m c L) (hI : ItT B1 A m c wb w) (hn : m ≤ 4294967000) :
    Calls Try.prog 61 #[.slice none 0 0, .func (.func 58) #[] #[.pointer (some ⟨B1, 0, none⟩)]] w fun e w' =>
      ∃ v, e = .returned v ∧ w'.ownsRow w.heap.size 45 11 v m (L.flatMap P11.cells) ∧ Below w.heap.size w w' := by
  refine (callsIn_wide (n := 6)).1 ?_
  obtain ⟨w1, hw1⟩ : ∃ w1, w1 = w.alloc (.cells #[.slice none 0 0] 24) := ⟨_, rfl⟩
  have bb : Below w.heap.size w w1 := by rw [hw1]; exact below_new (Below.refl _ _) _
  have hbox : Boxed w1 w.heap.size 24 (.slice none 0 0) := by rw [hw1]; exact Boxed.new _ _ _
  have hs1 : w1.heap.size = w.heap.size + 1 := by rw [hw1]; simp
  have hI1 := hI.below bb
  have hwb : wb.heap.size ≤ w1.heap.size := hI1.bel.size
  have hle : L.length = m := hrd.len
  have hseq := valuesT_stops 5 (by omega) B1 A m c L wb w1 hrd hI1
  refine callsIn_of_wp_marks Try.func61 rfl trivial ?_ rfl
  simp only [Try.ntmps61, List.size_toArray, List.length_cons, List.length_nil, Nat.reduceAdd, Nat.reduceSub, Array.replicate_succ, Array.replicate_zero, List.push_toArray, List.append_toArray, List.nil_append, List.cons_append]
  gi_wp2_with fail
  rw [← hw1]
  refine wpIn_rangeFunc_ownH rfl (by omega) (gf := 58) (lb := #[.pointer (some ⟨B1, 0, none⟩)]) rfl trivial Try.egValuesT hseq (fun h1 h2 h => h2 (h1 h)) (fun W l o o' hl ho hc hw h => ItT.put hwb W l o o' hl ho hc hw h) (Below.refl _ _) (fun _ => rfl)
    (fun pre W => (∃ v, Boxed W w.heap.size 24 v ∧ W.ownsRow w.heap.size 45 11 v pre.length (pre.flatMap P11.cells) ∧ True) ∧ Below w.heap.size w W)
    (fun _ _ _ => False)
    (OwnFrom.and (Own.from (holdsRow_own w.heap.size w.heap.size 24 45 11 (fun pre : List P11 => pre.length) (fun pre => pre.flatMap P11.cells) (fun _ _ => True)) _) (ownFrom_below (Nat.le_refl _) (by omega)))
    (fun _ _ _ _ _ hs _ _ => hs)
    ⟨⟨_, hbox, World.ownsRow_nil _ _ _ _, trivial⟩, bb⟩
    (fun x a' W => ∃ Bx, w.heap.size < Bx ∧ W.heap[Bx]? = some (partCells x) ∧ a' = { tmps := #[.slice none 0 0, .func (.func 58) #[] #[.pointer (some ⟨B1, 0, none⟩)], .pointer (some ⟨w.heap.size, 0, none⟩), undef, .slice none 0 0, .pointer (some ⟨Bx, 0, none⟩), .func (.func 58) #[] #[.pointer (some ⟨B1, 0, none⟩)], x.agg, undef, undef, undef, undef, undef], defers := [] })
    (fun x a' => fun _ X Y row hs hg hrow => by
      obtain ⟨Bx, h1, h2, h3⟩ := hs
      exact ⟨Bx, h1, cells_ownT (β := Unit) w1.heap.size Bx _ rfl () X Y row h2 hg hrow, h3⟩) ?assign ?body ?done ?stop
  case assign =>
    rintro l pre x W K ⟨⟨v, hv, hrow, _⟩, hB⟩ hK
    gi_wp2_with fail
    refine hK _ _ ((KeepsOthers.alloc W (partCells x)).from _) (fun h => h.below (below_new (Below.refl _ _) _)) ⟨⟨v, hv.alloc _, hrow.alloc _, trivial⟩, below_new hB _⟩ ⟨W.heap.size, hv.lt, heap_alloc_new W _, rfl⟩
  case body =>
    rintro l pre x a' W hl0 hl1 ⟨⟨v, hv, hrow, _⟩, hB⟩ ⟨Bx, hBx, hx, rfl⟩ hlt
    have hc := hv.cell
    obtain ⟨m0, m1, m2, m3, m4, m5, m6, m7, m8, m9, m10⟩ := part_row hx
    gi_wp2_with (gi_at_builtin; refine wpListIn_pushT rfl _ _ rfl w.heap.size v pre.length pre x _ rfl rfl rfl hrow (by omega) hB hB.size ?_; intro v' w5 hown' hgrow B5 hs5; obtain ⟨g', cap', rfl⟩ := ownsRow_succ hown'; obtain ⟨hv1, hv2, hr2, hk2, hb2⟩ := hv.appended (by decide) hrow hB.size (Nat.le_refl _) hown' hgrow; have hc1 := hv1.cell; have hf1 := hv1.frozen)
    exact ⟨hk2.from _, fun _ => hI.below (hB.trans hb2), ⟨⟨_, hv2, by simpa using hr2, trivial⟩, hB.trans hb2⟩⟩
  case done =>
    rintro D ys W hD rfl ⟨⟨v, hv, hrow, _⟩, hB⟩ hK
    have hc := hv.cell
    gi_wp2_with fail
    refine ⟨by simp, .inl ⟨_, _, rfl, run_takeDeferred hK, ?_⟩⟩
    rw [hle] at hrow
    exact ⟨_, results_tmp rfl _ _ _, v, rfl, ownsRow_putObj hrow _ hK rfl, hB.trans (belowK_b (w := w) (Nat.le_refl _) W D _ _ (by omega) hK rfl rfl)⟩
  case stop =>
    rintro D c pre W _ _ h _
    exact h.elim

theorem collectT_any (B1 : Nat) (A : Option Addr) (m c : Nat) (L : List P11) (wb w : World) (hrd : RdP wb A m c L) (hI : ItT B1 A m c wb w) (hn : m ≤ 4294967000) :
    Calls Try.prog 56 #[.func (.func 58) #[] #[.pointer (some ⟨B1, 0, none⟩)]] w fun e w' =>
      ∃ v, e = .returned v ∧ w'.ownsRow w.heap.size 45 11 v m (L.flatMap P11.cells) ∧ Below w.heap.size w w' := by
  have C := Lib.hid (appendSeqT_any B1 A m c L wb w hrd hI hn)
  clear hrd hI
  go_enter Try.func56, Try.ntmps56
  go_wp2_with (go_at_call 61; refine C.out.mono ?_; rintro e w' ⟨v, rfl, h1, h2⟩)
  go_ret
  exact ⟨v, rfl, h1, h2⟩
end Go.Proofs.Ytlgpijdemfccaaa

