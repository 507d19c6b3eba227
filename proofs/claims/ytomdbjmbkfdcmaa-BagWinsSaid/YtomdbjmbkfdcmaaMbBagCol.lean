/- Layer 9: slices.Collect of the parts that an iterator goes through. -/
import Derived.Test.YtomdbjmbkfdcmaaMbBagSeq
import Derived.RangeFuncBox
import Derived.Maps.AppendAt
namespace Go.Proofs.Ytomdbjmbkfdcmaa
set_option maxRecDepth 100000
open Go.RowKit Go.Sort Go.Shelf
attribute [local go_sem] Oper.semAt_some

theorem Try.egThose1 : ∀ args w, (callFunc 89 args).run Try.prog w = .ok (.enter 89 args) w := enters_of Try.func89 (by kernel_rfl) rfl
theorem cells_own {β : Type} (B b : Nat) (o : Obj) (ho : o.isCells = true) : OwnFrom B (fun (_ : β) W => W.heap[b]? = some o) := fun _ X Y row hs hg hrow => by
  refine (hg.block b (Array.getElem?_eq_some_iff.1 hs).1 (fun e' => ?_)).trans hs
  obtain ⟨_, o', ho', hc⟩ := hrow b e'.symm
  rw [hs] at ho'; cases ho'; rw [ho] at hc; cases hc

/-- a part more, behind a row of the call's own, in a round -/
theorem wpListIn_pushP {F : Fence} {n : Nat} {w W0 : World} {ops : Array Oper} {rest : List Oper} {o : Oper} {a : Act} {Q : Exit → Act → World → Prop} (hgd : o.guard = none) (s x : Operand)
    (ho : o.op = .call { callee := .builtin .append, args := #[s, x], argTypes := #[24, 24] })
    (base : Nat) (v : Value) (k : Nat) (l : List P11) (u : P11) (g : Nat) (hg : w.heap.size = g) (hx : a.eval x = .slice (some ⟨g, 0, none⟩) 1 1)
    (hs : a.eval s = v) (hown : w.ownsRow base 30 11 v k (l.flatMap P11.cells)) (hn : k < 4294967296)
    (hbel : Below base W0 w) (hbase : base ≤ w.heap.size)
    (h : ∀ v' w', w'.ownsRow base 30 11 v' (k + 1) ((l ++ [u]).flatMap P11.cells) → (w.alloc (partCells u)).grownBy w' v.ownBlock → Below base W0 w' → base ≤ w'.heap.size → wpListIn F n Try.prog ops Q rest (a.put o.dst v') w') :
    wpListIn F n Try.prog ops Q (o :: rest) a (w.alloc (partCells u)) := by
  subst hg
  obtain ⟨i0, hi0, hz0, hz1, hz2⟩ := info_parts Try.infoPart
  refine wpListIn_append_own _ hgd s x 24 ho base 30 i0 _ 11 96 Try.underlying24 hi0 hz0 hz1 hz2 rfl (by omega) v k (l.flatMap P11.cells) hs (hown.alloc _) ⟨w.heap.size, 0, none⟩ 1 1 u.cells hx rfl ?_
    (p11one u) (by simp only [maxLen]; omega) (by omega) (by simp; omega) ?_
  · intro j y hj
    rw [Addr.add_lit, Nat.zero_add, cell_row (heap_alloc_new w _)]
    simpa [P11.cells] using hj
  intro v' w' hown' hgrow _
  refine h v' w' ?_ hgrow ?_ (by have := hgrow.size; simp at this; omega)
  · rw [List.flatMap_append]
    simpa using hown'
  · exact (hbel.alloc hbase _).grown hgrow (by simp; omega) (fun k hk => (hown.lt k hk).1)

set_option maxHeartbeats 6400000 in
theorem appendSeq_any (B1 B2 : Nat) (A : Option Addr) (m c : Nat) (L : List P11) (g : Nat) (r : Value) (p : P11 → Bool) (wb w : World)
    (eg : ∀ args w, (callFunc g args).run Try.prog w = .ok (.enter g args) w) (hrd : RdP wb A m c L) (hp : TellsR Try.prog g r p wb) (hI : ItP B1 B2 A m c (.func (.func g) #[r] #[]) wb w) (hn : m ≤ 4294967000) :
    Calls Try.prog 88 #[.slice none 0 0, .func (.func 89) #[] #[.pointer (some ⟨B1, 0, none⟩), .pointer (some ⟨B2, 0, none⟩)]] w fun e w' =>
      ∃ v, e = .returned v ∧ w'.ownsRow w.heap.size 30 11 v (L.filter p).length ((L.filter p).flatMap P11.cells) ∧ Below w.heap.size w w' := by
  refine (callsIn_wide (n := 6)).1 ?_
  obtain ⟨w1, hw1⟩ : ∃ w1, w1 = w.alloc (.cells #[.slice none 0 0] 24) := ⟨_, rfl⟩
  have bb : Below w.heap.size w w1 := by rw [hw1]; exact below_new (Below.refl _ _) _
  have hbox : Boxed w1 w.heap.size 24 (.slice none 0 0) := by rw [hw1]; exact Boxed.new _ _ _
  have hs1 : w1.heap.size = w.heap.size + 1 := by rw [hw1]; simp
  have hI1 := hI.below bb
  have hwb : wb.heap.size ≤ w1.heap.size := hI1.bel.size
  have hle : (L.filter p).length ≤ m := Nat.le_trans (List.length_filter_le _ _) (by rw [hrd.len]; exact Nat.le_refl _)
  have hseq := those_stops 5 (by omega) B1 B2 A m c L g r p wb w1 eg hrd hp hI1
  refine callsIn_of_wp_marks Try.func88 rfl trivial ?_ rfl
  simp only [Try.ntmps88, List.size_toArray, List.length_cons, List.length_nil, Nat.reduceAdd, Nat.reduceSub, Array.replicate_succ, Array.replicate_zero, List.push_toArray, List.append_toArray, List.nil_append, List.cons_append]
  gi_wp2_with fail
  rw [← hw1]
  refine wpIn_rangeFunc_ownH rfl (by omega) (gf := 89) (lb := #[.pointer (some ⟨B1, 0, none⟩), .pointer (some ⟨B2, 0, none⟩)]) rfl trivial Try.egThose1 hseq (fun h1 h2 h => h2 (h1 h)) (fun W l o o' hl ho hc hw h => ItP.put hwb W l o o' hl ho hc hw h) (Below.refl _ _) (fun _ => rfl)
    (fun pre W => (∃ v, Boxed W w.heap.size 24 v ∧ W.ownsRow w.heap.size 30 11 v pre.length (pre.flatMap P11.cells) ∧ True) ∧ Below w.heap.size w W)
    (fun _ _ _ => False)
    (OwnFrom.and (Own.from (holdsRow_own w.heap.size w.heap.size 24 30 11 (fun pre : List P11 => pre.length) (fun pre => pre.flatMap P11.cells) (fun _ _ => True)) _) (ownFrom_below (Nat.le_refl _) (by omega)))
    (fun _ _ _ _ _ hs _ _ => hs)
    ⟨⟨_, hbox, World.ownsRow_nil _ _ _ _, trivial⟩, bb⟩
    (fun x a' W => ∃ Bx, w.heap.size < Bx ∧ W.heap[Bx]? = some (partCells x) ∧ a' = { tmps := #[.slice none 0 0, .func (.func 89) #[] #[.pointer (some ⟨B1, 0, none⟩), .pointer (some ⟨B2, 0, none⟩)], .pointer (some ⟨w.heap.size, 0, none⟩), undef, .slice none 0 0, .pointer (some ⟨Bx, 0, none⟩), .func (.func 89) #[] #[.pointer (some ⟨B1, 0, none⟩), .pointer (some ⟨B2, 0, none⟩)], x.agg, undef, undef, undef, undef, undef], defers := [] })
    (fun x a' => fun _ X Y row hs hg hrow => by
      obtain ⟨Bx, h1, h2, h3⟩ := hs
      exact ⟨Bx, h1, cells_own (β := Unit) w1.heap.size Bx _ rfl () X Y row h2 hg hrow, h3⟩) ?assign ?body ?done ?stop
  case assign =>
    rintro l pre x W K ⟨⟨v, hv, hrow, _⟩, hB⟩ hK
    gi_wp2_with fail
    refine hK _ _ ((KeepsOthers.alloc W (partCells x)).from _) (fun h => h.below (below_new (Below.refl _ _) _)) ⟨⟨v, hv.alloc _, hrow.alloc _, trivial⟩, below_new hB _⟩ ⟨W.heap.size, hv.lt, heap_alloc_new W _, rfl⟩
  case body =>
    rintro l pre x a' W hl0 hl1 ⟨⟨v, hv, hrow, _⟩, hB⟩ ⟨Bx, hBx, hx, rfl⟩ hlt
    have hc := hv.cell
    obtain ⟨m0, m1, m2, m3, m4, m5, m6, m7, m8, m9, m10⟩ := part_row hx
    gi_wp2_with (gi_at_builtin; refine wpListIn_pushP rfl _ _ rfl w.heap.size v pre.length pre x _ rfl rfl rfl hrow (by omega) hB hB.size ?_; intro v' w5 hown' hgrow B5 hs5; obtain ⟨g', cap', rfl⟩ := ownsRow_succ hown'; obtain ⟨hv1, hv2, hr2, hk2, hb2⟩ := hv.appended (by decide) hrow hB.size (Nat.le_refl _) hown' hgrow; have hc1 := hv1.cell; have hf1 := hv1.frozen)
    exact ⟨hk2.from _, fun _ => hI.below (hB.trans hb2), ⟨⟨_, hv2, by simpa using hr2, trivial⟩, hB.trans hb2⟩⟩
  case done =>
    rintro D ys W hD rfl ⟨⟨v, hv, hrow, _⟩, hB⟩ hK
    have hc := hv.cell
    gi_wp2_with fail
    refine ⟨by simp, .inl ⟨_, _, rfl, run_takeDeferred hK, ?_⟩⟩
    exact ⟨_, results_tmp rfl _ _ _, v, rfl, ownsRow_putObj hrow _ hK rfl, hB.trans (belowK_b (w := w) (Nat.le_refl _) W D _ _ (by omega) hK rfl rfl)⟩
  case stop =>
    rintro D c pre W _ _ h _
    exact h.elim

theorem collect_any (B1 B2 : Nat) (A : Option Addr) (m c : Nat) (L : List P11) (g : Nat) (r : Value) (p : P11 → Bool) (wb w : World)
    (eg : ∀ args w, (callFunc g args).run Try.prog w = .ok (.enter g args) w) (hrd : RdP wb A m c L) (hp : TellsR Try.prog g r p wb) (hI : ItP B1 B2 A m c (.func (.func g) #[r] #[]) wb w) (hn : m ≤ 4294967000) :
    Calls Try.prog 49 #[.func (.func 89) #[] #[.pointer (some ⟨B1, 0, none⟩), .pointer (some ⟨B2, 0, none⟩)]] w fun e w' =>
      ∃ v, e = .returned v ∧ w'.ownsRow w.heap.size 30 11 v (L.filter p).length ((L.filter p).flatMap P11.cells) ∧ Below w.heap.size w w' := by
  have C := Lib.hid (appendSeq_any B1 B2 A m c L g r p wb w eg hrd hp hI hn)
  clear hrd hp hI
  go_enter Try.func49, Try.ntmps49
  go_wp2_with (go_at_call 88; refine C.out.mono ?_; rintro e w' ⟨v, rfl, h1, h2⟩)
  go_ret
  exact ⟨v, rfl, h1, h2⟩
end Go.Proofs.Ytomdbjmbkfdcmaa

