/- Layer 9: slices.Sorted and slices.Compact of the numbers of parts: bag.Numbers, bag.Show. -/
import Derived.Test.YtomdbjmbkfdcmaaMbBagNums
import Derived.Test.YtomdbjmbkfdcmaaMbShelfN
import Derived.Shelf.SortM.Plain
import Derived.Shelf.SortM.SortNone
import Derived.Shelf.Slices.CompactI
import Derived.Sort.OwnSortedInts
import Derived.Lib.RowBridge
namespace Go.Proofs.Ytomdbjmbkfdcmaa
set_option maxRecDepth 100000
open Go.RowKit Go.Sort Go.Shelf Go.Lib
attribute [local go_sem] Oper.semAt_some

theorem Try.infoInt9 : (Try.prog.info? 3).map (fun i => (i.zero, i.size, i.bytes)) = some (some (.int .i64 0), 1, 8) := by kernel_rfl

set_option maxHeartbeats 6400000 in
theorem appendSeqI_any (B1 : Nat) (A : Option Addr) (m c : Nat) (L : List P11) (wb w : World) (hrd : RdP wb A m c L) (hI : ItN B1 A m c wb w) (hn : m ≤ 4294967000) :
    Calls Try.prog 115 #[.slice none 0 0, .func (.func 94) #[] #[.pointer (some ⟨B1, 0, none⟩)]] w fun e w' =>
      ∃ v, e = .returned v ∧ w'.ownsRow w.heap.size 3 1 v m (vals .i64 (L.map numOf)) ∧ Below w.heap.size w w' := by
  refine (callsIn_wide (n := 6)).1 ?_
  obtain ⟨i0, hi, hz0, hz1, hz2⟩ := info_parts Try.infoInt9
  obtain ⟨w1, hw1⟩ : ∃ w1, w1 = w.alloc (.cells #[.slice none 0 0] 32) := ⟨_, rfl⟩
  have bb : Below w.heap.size w w1 := by rw [hw1]; exact below_new (Below.refl _ _) _
  have hbox : Boxed w1 w.heap.size 32 (.slice none 0 0) := by rw [hw1]; exact Boxed.new _ _ _
  have HS1 : Hid (w1.heap.size = w.heap.size + 1) := by rw [hw1]; show _ = _; simp
  have hI1 := hI.below bb
  have hwb : wb.heap.size ≤ w1.heap.size := hI1.bel.size
  have hlL := hrd.len
  have hseq := numbers_stops 5 (by omega) B1 A m c L wb w1 hrd hI1
  refine callsIn_of_wp_marks Try.func115 rfl trivial ?_ rfl
  simp only [Try.ntmps115, List.size_toArray, List.length_cons, List.length_nil, Nat.reduceAdd, Nat.reduceSub, Array.replicate_succ, Array.replicate_zero, List.push_toArray, List.append_toArray, List.nil_append, List.cons_append]
  gi_wp2_with fail
  rw [← hw1]
  refine wpIn_rangeFunc_ownF rfl (by omega) (gf := 94) (lb := #[.pointer (some ⟨B1, 0, none⟩)]) rfl trivial Try.egNumbers1 hseq (fun h1 h2 h => h2 (h1 h)) (fun W l o o' hl ho hc hw h => ItN.put hwb W l o o' hl ho hc hw h) (Below.refl _ _) (fun _ => rfl)
    (fun pre W => (∃ v, Boxed W w.heap.size 32 v ∧ W.ownsRow w.heap.size 3 1 v pre.length (vals .i64 pre) ∧ True) ∧ Below w.heap.size w W)
    (fun _ _ _ => False)
    (OwnFrom.and (Own.from (holdsRow_own w.heap.size w.heap.size 32 3 1 (fun pre : List Int => pre.length) (fun pre => vals .i64 pre) (fun _ _ => True)) _) (ownFrom_below (Nat.le_refl _) (by have := HS1.out; omega)))
    (fun _ _ _ _ _ hs _ _ => hs)
    ⟨⟨_, hbox, World.ownsRow_nil _ _ _ _, trivial⟩, bb⟩
    (fun x => { tmps := #[.slice none 0 0, .func (.func 94) #[] #[.pointer (some ⟨B1, 0, none⟩)], .pointer (some ⟨w.heap.size, 0, none⟩), undef, .slice none 0 0, .int .i64 x, .func (.func 94) #[] #[.pointer (some ⟨B1, 0, none⟩)], .int .i64 x, undef, undef, undef, undef, undef], defers := [] }) ?assign ?body ?done ?stop
  case assign =>
    intro l x W K hK
    clear hseq
    gi_wp2
    exact hK
  case body =>
    rintro l pre x W ⟨⟨v, hv, hrow, _⟩, hB⟩ hlt
    have hc := hv.cell
    clear hseq
    gi_wp2_with (gi_at_builtin; refine wpListIn_append_own _ rfl _ _ 32 rfl w.heap.size 3 i0 (.int .i64 0) 1 8 Try.underlying32 hi hz0 hz1 hz2 rfl (by decide) _ _ _ rfl (hrow.alloc _) ⟨W.heap.size, 0, none⟩ 1 1 [.int .i64 x] rfl rfl (cell_one_new _ _ _) (by simp [Value.oneCell']) (by simp only [maxLen]; omega) (by omega) (by have := hB.size; simp; omega) ?_; intro v' w5 hown' hgrow _; obtain ⟨g', cap', rfl⟩ := ownsRow_succ hown'; obtain ⟨hv1, hv2, hr2, hk2, hb2⟩ := hv.appended (by decide) hrow hB.size (Nat.le_refl _) hown' hgrow; have hc1 := hv1.cell; have hf1 := hv1.frozen)
    exact ⟨hk2, fun _ => hI.below (hB.trans hb2), ⟨⟨_, hv2, by simpa using hr2, trivial⟩, hB.trans hb2⟩⟩
  case done =>
    rintro D ys W hD rfl ⟨⟨v, hv, hrow, _⟩, hB⟩ hK
    have hc := hv.cell
    clear hseq
    gi_wp2_with fail
    refine ⟨by simp, .inl ⟨_, _, rfl, run_takeDeferred hK, ?_⟩⟩
    rw [List.length_map, hlL] at hrow
    exact ⟨_, results_tmp rfl _ _ _, v, rfl, ownsRow_putObj hrow _ hK rfl, hB.trans (belowK_b (w := w) (Nat.le_refl _) W D _ _ (by have := HS1.out; omega) hK rfl rfl)⟩
  case stop =>
    rintro D c pre W _ _ h _
    exact h.elim

theorem collectI_any (B1 : Nat) (A : Option Addr) (m c : Nat) (L : List P11) (wb w : World) (hrd : RdP wb A m c L) (hI : ItN B1 A m c wb w) (hn : m ≤ 4294967000) :
    Calls Try.prog 99 #[.func (.func 94) #[] #[.pointer (some ⟨B1, 0, none⟩)]] w fun e w' =>
      ∃ v, e = .returned v ∧ w'.ownsRow w.heap.size 3 1 v m (vals .i64 (L.map numOf)) ∧ Below w.heap.size w w' := by
  have C := Lib.hid (appendSeqI_any B1 A m c L wb w hrd hI hn)
  clear hrd hI
  go_enter Try.func99, Try.ntmps99
  go_wp2_with (go_at_call 115; refine C.out.mono ?_; rintro e w' ⟨v, rfl, h1, h2⟩)
  go_ret
  exact ⟨v, rfl, h1, h2⟩

/-- numbers, sorted -/
def srtI (l : List Int) : List Int := l.mergeSort fun x y => decide (x ≤ y)
theorem srtI_len (l : List Int) : (srtI l).length = l.length := List.length_mergeSort l

theorem sortI_any (base n : Nat) (v : Value) (zs : List Int) (w w0 : World) (hl : zs.length = n) (hn : n ≤ 4294967296) (h : w.ownsRow base 3 1 v n (vals .i64 zs)) (hb : Below base w0 w) :
    Calls Try.prog 100 #[v] w fun e w' => e = .returned (.tuple #[]) ∧ w'.ownsRow base 3 1 v n (vals .i64 (srtI zs)) ∧ Below base w0 w' := by
  rcases h.2 with ⟨rfl, rfl⟩ | ⟨g, cap, cur, rfl, hbg, hh, hnc, hcm, hcs, hct⟩
  · obtain rfl : zs = [] := List.eq_nil_of_length_eq_zero hl
    have := AnyM.slices_Sort_int_none (P := Try.prog) (ρ := Try.sortN_ren) Try.sortN none 0 w
    refine Calls.mono this ?_
    rintro e w' ⟨rfl, rfl⟩
    exact ⟨rfl, by rw [show srtI [] = [] from List.eq_nil_of_length_eq_zero (srtI_len [])]; exact h, hb⟩
  · subst hl
    rw [Nat.mul_one] at hct
    have hH := holds_of_blockI hh hct
    have hg := (Array.getElem?_eq_some_iff.1 hh).1
    have := AnyM.slices_Sort_int (P := Try.prog) (ρ := Try.sortN_ren) Try.sortN g 0 cap zs w hH hg (by omega)
    refine Calls.mono this ?_
    rintro e w' ⟨rfl, q, os, rfl⟩
    refine ⟨rfl, ?_, hb.grown (grownBy_sortedI _) (by omega) (fun k e => by cases e; exact hbg)⟩
    have := ownsRow_sortedI (n := q) (os := os) (ss := zs) (ts := srtI zs) (srtI_len zs) hbg hh hnc hcm hcs
    exact this

theorem compactI_any (base n : Nat) (v : Value) (zs : List Int) (w w0 : World) (hl : zs.length = n) (hn : n ≤ 4294967296) (h : w.ownsRow base 3 1 v n (vals .i64 zs)) (hb : Below base w0 w) :
    Calls Try.prog 86 #[v] w fun e w' => ∃ A' c', e = .returned (.slice A' (Lib.compact zs).length c') ∧ Rd w' A' (Lib.compact zs).length c' (vals .i64 (Lib.compact zs)) ∧ Below base w0 w' := by
  rcases h.2 with ⟨rfl, rfl⟩ | ⟨g, cap, cur, rfl, hbg, hh, hnc, hcm, hcs, hct⟩
  · obtain rfl : zs = [] := List.eq_nil_of_length_eq_zero hl
    have := Any.slices_Compact_int_empty (P := Try.prog) (ρ := Try.compactN_ren) Try.compactN none 0 w
    refine Calls.mono this ?_
    rintro e w' ⟨rfl, rfl⟩
    have h0 : Lib.compact ([] : List Int) = [] := List.eq_nil_of_length_eq_zero (Nat.le_zero.1 (Lib.compact_length_le ([] : List Int)))
    rw [h0]
    exact ⟨none, 0, rfl, Rd.nil_ _, hb⟩
  · subst hl
    rw [Nat.mul_one] at hct
    have hH := holds_of_blockI hh hct
    have hg := (Array.getElem?_eq_some_iff.1 hh).1
    have hcl := Lib.compact_length_le zs
    have := Any.slices_Compact_int (P := Try.prog) (ρ := Try.compactN_ren) Try.compactN g 0 cap zs w hH (by omega) hnc
    refine Calls.mono this ?_
    rintro e w' ⟨rfl, q, rfl⟩
    have hgb := grownBy_sortedI (w := w) (g := g) (n := q) (os := #[]) (Lib.compact zs ++ List.replicate (zs.length - (Lib.compact zs).length) 0).toArray
    rw [grow_empty] at hgb
    refine ⟨some ⟨g, 0, none⟩, cap, rfl, ?_, hb.grown hgb (by omega) (fun k e => by cases e; exact hbg)⟩
    refine ⟨by simp, by omega, hcm, fun _ => ⟨g, 0, rfl, by rw [size_putRow]; exact hg, fun j hj => ?_⟩⟩
    have hj2 : j < (Lib.compact zs).length := by simpa using hj
    have := cell?_putRow (Value.int .i64) (Sort.ahead w q) g 0 zs.toArray (Lib.compact zs ++ List.replicate (zs.length - (Lib.compact zs).length) 0).toArray hH (by simp; omega) j (by simp; omega)
    rw [this]
    simp only [List.getElem!_toArray, List.getElem_map, vals]
    rw [getElem!_pos _ j (by simp; omega), List.getElem_append_left hj2]

def numsB (l : List P11) : List Int := Lib.compact (srtI (l.map numOf))

theorem sortedI_any (B1 : Nat) (A : Option Addr) (m c : Nat) (L : List P11) (wb w : World) (hrd : RdP wb A m c L) (hI : ItN B1 A m c wb w) (hn : m ≤ 4294967000) :
    Calls Try.prog 87 #[.func (.func 94) #[] #[.pointer (some ⟨B1, 0, none⟩)]] w fun e w' =>
      ∃ v, e = .returned v ∧ w'.ownsRow w.heap.size 3 1 v m (vals .i64 (srtI (L.map numOf))) ∧ Below w.heap.size w w' := by
  have hl : (L.map numOf).length = m := by rw [List.length_map, hrd.len]
  have C := Lib.hid (collectI_any B1 A m c L wb w hrd hI hn)
  have HL := Lib.hid hl
  clear hrd hI hl
  go_enter Try.func87, Try.ntmps87
  go_wp2_with fail
  refine C.out.mono ?_
  rintro e w2 ⟨v, rfl, h1, h2⟩
  have S := Lib.hid (sortI_any w.heap.size m v (L.map numOf) w2 w HL.out (by omega) h1 h2)
  clear C h1 h2
  go_wp2_with (go_at_call 100; refine S.out.mono ?_; rintro e w3 ⟨rfl, h3, h4⟩)
  go_ret
  exact ⟨v, rfl, h3, h4⟩

set_option maxHeartbeats 1600000 in
theorem numbersB_any (ka : Int) (va : V3) (A : Option Addr) (m c : Nat) (l : List P11) (w : World) (h : RdP w A m c l) (hn : m ≤ 4294967000) :
    Calls Try.prog 47 #[cellV ka va (.slice A m c)] w fun e w' => ∃ A' c', e = .returned (.slice A' (numsB l).length c') ∧ Rd w' A' (numsB l).length c' (vals .i64 (numsB l)) ∧ Below w.heap.size w w' := by
  obtain ⟨w1, hw1⟩ : ∃ w1, w1 = w.alloc (cellRow ka va (.slice A m c)) := ⟨_, rfl⟩
  have hb1 : Below w.heap.size w w1 := by rw [hw1]; exact below_new (Below.refl _ _) _
  obtain ⟨c0, c1, c2, c3, c4⟩ := cell_row5 (show w1.heap[w.heap.size]? = some (cellRow ka va (.slice A m c)) by rw [hw1]; exact heap_alloc_new w _)
  have hrd := h.below hb1
  have HL := Lib.hid h.len
  have NU := Lib.hid (numbers_any A m c w1)
  have HI := Lib.hid (itn_new A m c w1)
  have HRD := Lib.hid hrd; have HB1 := Lib.hid hb1
  replace hw1 := Lib.hid hw1
  clear h hb1 hrd
  go_enter Try.func47, Try.ntmps47
  go_upto_region 1 with fail
  rw [show w.alloc (cellRow ka va (.slice A m c)) = w1 from hw1.out.symm]
  clear hw1
  go_wp2_with fail
  refine NU.out.mono ?_
  rintro e w2 ⟨rfl, hw2⟩
  have b2 : Below w1.heap.size w1 w2 := by rw [hw2]; exact below_new (Below.refl _ _) _
  rw [← hw2] at HI
  have HB2 := Lib.hid (below_then HB1.out b2)
  have S := Lib.hid (sortedI_any w1.heap.size A m c l w1 w2 HRD.out HI.out hn)
  replace hw2 := Lib.hid hw2
  clear NU b2 c0 c1 c2 c3 c4
  go_wp2_with fail
  refine S.out.mono ?_
  rintro e w3 ⟨v, rfl, h3, b3⟩
  have CP := Lib.hid (compactI_any w2.heap.size m v (srtI (l.map numOf)) w3 w2 (by rw [srtI_len, List.length_map, HL.out]) (by omega) h3 b3)
  clear S h3 b3
  go_wp2_with (go_at_call 86; refine CP.out.mono ?_; rintro e w4 ⟨A', c', rfl, h4, b4⟩)
  go_ret
  exact ⟨A', c', rfl, h4, HB2.out.trans (b4.mono HB2.out.size)⟩

set_option maxHeartbeats 1600000 in
theorem showB_any (ka : Int) (va : V3) (A : Option Addr) (m c : Nat) (l : List P11) (w : World) (h : RdP w A m c l) (hn : m ≤ 4294967000) :
    Calls Try.prog 30 #[cellV ka va (.slice A m c)] w fun e w' => e = .returned (.agg #[.int .i64 1, .int .i64 ((numsB l).length : Nat), .string ⟨#[]⟩]) ∧ Below w.heap.size w w' := by
  obtain ⟨w1, hw1⟩ : ∃ w1, w1 = (w.alloc (cellRow ka va (.slice A m c))).alloc (valRow ⟨0, 0, ⟨#[]⟩⟩) := ⟨_, rfl⟩
  have hb1 : Below w.heap.size w w1 := by rw [hw1]; exact below_new (below_new (Below.refl _ _) _) _
  obtain ⟨c0, c1, c2, c3, c4⟩ := cell_row5 (show w1.heap[w.heap.size]? = some (cellRow ka va (.slice A m c)) by rw [hw1]; exact old_at _ (heap_alloc_new w _))
  have h2 : w1.heap[w.heap.size + 1]? = some (valRow ⟨0, 0, ⟨#[]⟩⟩) := by rw [hw1]; exact new_at _ _ _ (by simp)
  obtain ⟨N, hN⟩ : ∃ N, Hid ((numsB l).length = N) := ⟨_, rfl⟩
  have NU : Hid (Calls Try.prog 47 #[cellV ka va (.slice A m c)] w1 fun e w' => ∃ A' c', e = .returned (.slice A' N c') ∧ Below w1.heap.size w1 w') := by
    refine (numbersB_any ka va A m c l w1 (h.below hb1) hn).mono ?_
    rintro e w' ⟨A', c', rfl, _, hb⟩
    rw [hN.out]
    exact ⟨A', c', rfl, hb⟩
  rw [hN.out]
  have HB1 := Lib.hid hb1; have H2 := Lib.hid h2
  replace hw1 := Lib.hid hw1
  clear h hb1 h2
  go_enter Try.func30, Try.ntmps30
  go_upto_region 1 with fail
  rw [show (w.alloc (cellRow ka va (.slice A m c))).alloc (valRow ⟨0, 0, ⟨#[]⟩⟩) = w1 from hw1.out.symm]
  clear hw1
  go_wp2_with fail
  refine NU.out.mono ?_
  rintro e w2 ⟨A', c', rfl, b2⟩
  have r2 := row_below H2.out b2
  obtain ⟨d0, d1, d2⟩ := val_row r2
  have f0 := frozen_row r2
  have HR := Lib.hid r2
  have HB2 := Lib.hid (below_then HB1.out b2)
  clear NU b2 r2 c0 c1 c2 c3 c4
  go_wp2_with fail
  refine bodyPost_ret (v := .agg #[.int .i64 1, .int .i64 N, .string ⟨#[]⟩]) (results_cell_row rfl _ _ (w.heap.size + 1) 23 _ (0, 0) _ rfl (set3 HR.out) Try.underlying23 rfl (by kernel_rfl)) rfl ?_
  exact ⟨rfl, below_set3 HB2.out (by omega)⟩
end Go.Proofs.Ytomdbjmbkfdcmaa

