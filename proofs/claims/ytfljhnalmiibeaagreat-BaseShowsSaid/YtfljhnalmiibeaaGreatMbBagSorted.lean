/- Several texts laid together: BagSorted, MapK, ClkMem. -/
import Derived.Test.YtfljhnalmiibeaaGreatMbBagRight
import Derived.Test.YtfljhnalmiibeaaGreatMbShelfN
import Derived.Shelf.SortM.Plain
import Derived.Shelf.SortM.SortNone
import Derived.Shelf.Slices.CompactI
import Derived.Sort.OwnSortedInts
import Derived.Lib.RowBridge
import Derived.Test.YtfljhnalmiibeaaGreatMbMem
import Derived.WideKeyRuns
import Derived.MapKept
import Derived.Test.YtfljhnalmiibeaaGreatRows
import Derived.Test.YtfljhnalmiibeaaGreatMbStruct
import Derived.Laws.Rows
namespace Go.Proofs.YtfljhnalmiibeaaGreat
set_option maxRecDepth 100000
open Go.RowKit Go.Sort Go.Shelf Go.Lib
attribute [local go_sem] Oper.semAt_some
theorem Tryz.infoInt9 : (Tryz.prog.info? 3).map (fun i => (i.zero, i.size, i.bytes)) = some (some (.int .i64 0), 1, 8) := by kernel_rfl
set_option maxHeartbeats 6400000 in
theorem appendSeqI_any (B1 : Nat) (A : Option Addr) (m c : Nat) (L : List P11) (wb w : World) (hrd : RdP wb A m c L) (hI : ItN B1 A m c wb w) (hn : m ≤ 4294967000) :
    Calls Tryz.prog 169 #[.slice none 0 0, .func (.func 143) #[] #[.pointer (some ⟨B1, 0, none⟩)]] w fun e w' =>
      ∃ v, e = .returned v ∧ w'.ownsRow w.heap.size 3 1 v m (vals .i64 (L.map numOf)) ∧ Below w.heap.size w w' := by
  refine (callsIn_wide (n := 6)).1 ?_
  obtain ⟨i0, hi, hz0, hz1, hz2⟩ := info_parts Tryz.infoInt9
  obtain ⟨w1, hw1⟩ : ∃ w1, w1 = w.alloc (.cells #[.slice none 0 0] 61) := ⟨_, rfl⟩
  have bb : Below w.heap.size w w1 := by rw [hw1]; exact below_new (Below.refl _ _) _
  have hbox : Boxed w1 w.heap.size 61 (.slice none 0 0) := by rw [hw1]; exact Boxed.new _ _ _
  have HS1 : Hid (w1.heap.size = w.heap.size + 1) := by rw [hw1]; show _ = _; simp
  have hI1 := hI.below bb
  have hwb : wb.heap.size ≤ w1.heap.size := hI1.bel.size
  have hlL := hrd.len
  have hseq := numbers_stops 5 (by omega) B1 A m c L wb w1 hrd hI1
  refine callsIn_of_wp_marks Tryz.func169 rfl trivial ?_ rfl
  simp only [Tryz.ntmps169, List.size_toArray, List.length_cons, List.length_nil, Nat.reduceAdd, Nat.reduceSub, Array.replicate_succ, Array.replicate_zero, List.push_toArray, List.append_toArray, List.nil_append, List.cons_append]
  gi_wp2_with fail
  rw [← hw1]
  refine wpIn_rangeFunc_ownF rfl (by omega) (gf := 143) (lb := #[.pointer (some ⟨B1, 0, none⟩)]) rfl trivial Tryz.egNumbers1 hseq (fun h1 h2 h => h2 (h1 h)) (fun W l o o' hl ho hc hw h => ItN.put hwb W l o o' hl ho hc hw h) (Below.refl _ _) (fun _ => rfl)
    (fun pre W => (∃ v, Boxed W w.heap.size 61 v ∧ W.ownsRow w.heap.size 3 1 v pre.length (vals .i64 pre) ∧ True) ∧ Below w.heap.size w W)
    (fun _ _ _ => False)
    (OwnFrom.and (Own.from (holdsRow_own w.heap.size w.heap.size 61 3 1 (fun pre : List Int => pre.length) (fun pre => vals .i64 pre) (fun _ _ => True)) _) (ownFrom_below (Nat.le_refl _) (by have := HS1.out; omega)))
    (fun _ _ _ _ _ hs _ _ => hs)
    ⟨⟨_, hbox, World.ownsRow_nil _ _ _ _, trivial⟩, bb⟩
    (fun x => { tmps := #[.slice none 0 0, .func (.func 143) #[] #[.pointer (some ⟨B1, 0, none⟩)], .pointer (some ⟨w.heap.size, 0, none⟩), undef, .slice none 0 0, .int .i64 x, .func (.func 143) #[] #[.pointer (some ⟨B1, 0, none⟩)], .int .i64 x, undef, undef, undef, undef, undef], defers := [] }) ?assign ?body ?done ?stop
  case assign =>
    intro l x W K hK
    clear hseq
    gi_wp2
    exact hK
  case body =>
    rintro l pre x W ⟨⟨v, hv, hrow, _⟩, hB⟩ hlt
    have hc := hv.cell
    clear hseq
    gi_wp2_with (gi_at_builtin; refine wpListIn_append_own _ rfl _ _ 61 rfl w.heap.size 3 i0 (.int .i64 0) 1 8 Tryz.underlying61 hi hz0 hz1 hz2 rfl (by decide) _ _ _ rfl (hrow.alloc _) ⟨W.heap.size, 0, none⟩ 1 1 [.int .i64 x] rfl rfl (cell_one_new _ _ _) (by simp [Value.oneCell']) (by simp only [maxLen]; omega) (by omega) (by have := hB.size; simp; omega) ?_; intro v' w5 hown' hgrow _; obtain ⟨g', cap', rfl⟩ := ownsRow_succ hown'; obtain ⟨hv1, hv2, hr2, hk2, hb2⟩ := hv.appended (by decide) hrow hB.size (Nat.le_refl _) hown' hgrow; have hc1 := hv1.cell; have hf1 := hv1.frozen)
    exact ⟨hk2, fun _ => hI.below (hB.trans hb2), ⟨⟨_, hv2, by simpa using hr2, trivial⟩, hB.trans hb2⟩⟩
  case done =>
    rintro D ys W hD rfl ⟨⟨v, hv, hrow, _⟩, hB⟩ hK
    have hc := hv.cell
    clear hseq
    gi_wp2_with fail
    refine ⟨by simp, .inl ⟨_, _, rfl, run_takeDeferred hK, ?_⟩⟩
    rw [List.length_map, hlL] at hrow
    exact ⟨_, results_tmp rfl _ _ _, v, rfl, ownsRow_putObj hrow _ hK rfl, hB.trans (belowK_b (w := w) (Nat.le_refl _) W D _ _ (by have := HS1.out; omega) hK rfl rfl)⟩
  case stop =>
    rintro D c pre W _ _ h _
    exact h.elim
theorem collectI_any (B1 : Nat) (A : Option Addr) (m c : Nat) (L : List P11) (wb w : World) (hrd : RdP wb A m c L) (hI : ItN B1 A m c wb w) (hn : m ≤ 4294967000) :
    Calls Tryz.prog 141 #[.func (.func 143) #[] #[.pointer (some ⟨B1, 0, none⟩)]] w fun e w' =>
      ∃ v, e = .returned v ∧ w'.ownsRow w.heap.size 3 1 v m (vals .i64 (L.map numOf)) ∧ Below w.heap.size w w' := by
  have C := Lib.hid (appendSeqI_any B1 A m c L wb w hrd hI hn)
  clear hrd hI
  go_enter Tryz.func141, Tryz.ntmps141
  go_wp2_with (go_at_call 169; refine C.out.mono ?_; rintro e w' ⟨v, rfl, h1, h2⟩)
  go_ret
  exact ⟨v, rfl, h1, h2⟩
/-- numbers, sorted -/
def srtI (l : List Int) : List Int := l.mergeSort fun x y => decide (x ≤ y)
theorem srtI_len (l : List Int) : (srtI l).length = l.length := List.length_mergeSort l
theorem sortI_any (base n : Nat) (v : Value) (zs : List Int) (w w0 : World) (hl : zs.length = n) (hn : n ≤ 4294967296) (h : w.ownsRow base 3 1 v n (vals .i64 zs)) (hb : Below base w0 w) :
    Calls Tryz.prog 142 #[v] w fun e w' => e = .returned (.tuple #[]) ∧ w'.ownsRow base 3 1 v n (vals .i64 (srtI zs)) ∧ Below base w0 w' := by
  rcases h.2 with ⟨rfl, rfl⟩ | ⟨g, cap, cur, rfl, hbg, hh, hnc, hcm, hcs, hct⟩
  · obtain rfl : zs = [] := List.eq_nil_of_length_eq_zero hl
    have := AnyM.slices_Sort_int_none (P := Tryz.prog) (ρ := Tryz.sortN_ren) Tryz.sortN none 0 w
    refine Calls.mono this ?_
    rintro e w' ⟨rfl, rfl⟩
    exact ⟨rfl, by rw [show srtI [] = [] from List.eq_nil_of_length_eq_zero (srtI_len [])]; exact h, hb⟩
  · subst hl
    rw [Nat.mul_one] at hct
    have hH := holds_of_blockI hh hct
    have hg := (Array.getElem?_eq_some_iff.1 hh).1
    have := AnyM.slices_Sort_int (P := Tryz.prog) (ρ := Tryz.sortN_ren) Tryz.sortN g 0 cap zs w hH hg (by omega)
    refine Calls.mono this ?_
    rintro e w' ⟨rfl, q, os, rfl⟩
    refine ⟨rfl, ?_, hb.grown (grownBy_sortedI _) (by omega) (fun k e => by cases e; exact hbg)⟩
    have := ownsRow_sortedI (n := q) (os := os) (ss := zs) (ts := srtI zs) (srtI_len zs) hbg hh hnc hcm hcs
    exact this
theorem compactI_any (base n : Nat) (v : Value) (zs : List Int) (w w0 : World) (hl : zs.length = n) (hn : n ≤ 4294967296) (h : w.ownsRow base 3 1 v n (vals .i64 zs)) (hb : Below base w0 w) :
    Calls Tryz.prog 111 #[v] w fun e w' => ∃ A' c', e = .returned (.slice A' (Lib.compact zs).length c') ∧ Rd w' A' (Lib.compact zs).length c' (vals .i64 (Lib.compact zs)) ∧ Below base w0 w' := by
  rcases h.2 with ⟨rfl, rfl⟩ | ⟨g, cap, cur, rfl, hbg, hh, hnc, hcm, hcs, hct⟩
  · obtain rfl : zs = [] := List.eq_nil_of_length_eq_zero hl
    have := Any.slices_Compact_int_empty (P := Tryz.prog) (ρ := Tryz.compactN_ren) Tryz.compactN none 0 w
    refine Calls.mono this ?_
    rintro e w' ⟨rfl, rfl⟩
    have h0 : Lib.compact ([] : List Int) = [] := List.eq_nil_of_length_eq_zero (Nat.le_zero.1 (Lib.compact_length_le ([] : List Int)))
    rw [h0]
    exact ⟨none, 0, rfl, Rd.nil_ _, hb⟩
  · subst hl
    rw [Nat.mul_one] at hct
    have hH := holds_of_blockI hh hct
    have hg := (Array.getElem?_eq_some_iff.1 hh).1
    have hcl := Lib.compact_length_le zs
    have := Any.slices_Compact_int (P := Tryz.prog) (ρ := Tryz.compactN_ren) Tryz.compactN g 0 cap zs w hH (by omega) hnc
    refine Calls.mono this ?_
    rintro e w' ⟨rfl, q, rfl⟩
    have hgb := grownBy_sortedI (w := w) (g := g) (n := q) (os := #[]) (Lib.compact zs ++ List.replicate (zs.length - (Lib.compact zs).length) 0).toArray
    rw [grow_empty] at hgb
    refine ⟨some ⟨g, 0, none⟩, cap, rfl, ?_, hb.grown hgb (by omega) (fun k e => by cases e; exact hbg)⟩
    refine ⟨by simp, by omega, hcm, fun _ => ⟨g, 0, rfl, by rw [size_putRow]; exact hg, fun j hj => ?_⟩⟩
    have hj2 : j < (Lib.compact zs).length := by simpa using hj
    have := cell?_putRow (Value.int .i64) (Sort.ahead w q) g 0 zs.toArray (Lib.compact zs ++ List.replicate (zs.length - (Lib.compact zs).length) 0).toArray hH (by simp; omega) j (by simp; omega)
    rw [this]
    simp only [List.getElem!_toArray, List.getElem_map, vals]
    rw [getElem!_pos _ j (by simp; omega), List.getElem_append_left hj2]
def numsB (l : List P11) : List Int := Lib.compact (srtI (l.map numOf))
theorem sortedI_any (B1 : Nat) (A : Option Addr) (m c : Nat) (L : List P11) (wb w : World) (hrd : RdP wb A m c L) (hI : ItN B1 A m c wb w) (hn : m ≤ 4294967000) :
    Calls Tryz.prog 112 #[.func (.func 143) #[] #[.pointer (some ⟨B1, 0, none⟩)]] w fun e w' =>
      ∃ v, e = .returned v ∧ w'.ownsRow w.heap.size 3 1 v m (vals .i64 (srtI (L.map numOf))) ∧ Below w.heap.size w w' := by
  have hl : (L.map numOf).length = m := by rw [List.length_map, hrd.len]
  have C := Lib.hid (collectI_any B1 A m c L wb w hrd hI hn)
  have HL := Lib.hid hl
  clear hrd hI hl
  go_enter Tryz.func112, Tryz.ntmps112
  go_wp2_with fail
  refine C.out.mono ?_
  rintro e w2 ⟨v, rfl, h1, h2⟩
  have S := Lib.hid (sortI_any w.heap.size m v (L.map numOf) w2 w HL.out (by omega) h1 h2)
  clear C h1 h2
  go_wp2_with (go_at_call 142; refine S.out.mono ?_; rintro e w3 ⟨rfl, h3, h4⟩)
  go_ret
  exact ⟨v, rfl, h3, h4⟩
set_option maxHeartbeats 1600000 in
theorem numbersB_any (ka : Int) (va : V3) (A : Option Addr) (m c : Nat) (l : List P11) (w : World) (h : RdP w A m c l) (hn : m ≤ 4294967000) :
    Calls Tryz.prog 80 #[cellV ka va (.slice A m c)] w fun e w' => ∃ A' c', e = .returned (.slice A' (numsB l).length c') ∧ Rd w' A' (numsB l).length c' (vals .i64 (numsB l)) ∧ Below w.heap.size w w' := by
  obtain ⟨w1, hw1⟩ : ∃ w1, w1 = w.alloc (cellRow ka va (.slice A m c)) := ⟨_, rfl⟩
  have hb1 : Below w.heap.size w w1 := by rw [hw1]; exact below_new (Below.refl _ _) _
  obtain ⟨c0, c1, c2, c3, c4⟩ := cell_row5 (show w1.heap[w.heap.size]? = some (cellRow ka va (.slice A m c)) by rw [hw1]; exact heap_alloc_new w _)
  have hrd := h.below hb1
  have HL := Lib.hid h.len
  have NU := Lib.hid (numbers_any9 A m c w1)
  have HI := Lib.hid (itn_new A m c w1)
  have HRD := Lib.hid hrd; have HB1 := Lib.hid hb1
  replace hw1 := Lib.hid hw1
  clear h hb1 hrd
  go_enter Tryz.func80, Tryz.ntmps80
  go_upto_region 1 with fail
  rw [show w.alloc (cellRow ka va (.slice A m c)) = w1 from hw1.out.symm]
  clear hw1
  go_wp2_with fail
  refine NU.out.mono ?_
  rintro e w2 ⟨rfl, hw2⟩
  have b2 : Below w1.heap.size w1 w2 := by rw [hw2]; exact below_new (Below.refl _ _) _
  rw [← hw2] at HI
  have HB2 := Lib.hid (below_then HB1.out b2)
  have S := Lib.hid (sortedI_any w1.heap.size A m c l w1 w2 HRD.out HI.out hn)
  replace hw2 := Lib.hid hw2
  clear NU b2 c0 c1 c2 c3 c4
  go_wp2_with fail
  refine S.out.mono ?_
  rintro e w3 ⟨v, rfl, h3, b3⟩
  have CP := Lib.hid (compactI_any w2.heap.size m v (srtI (l.map numOf)) w3 w2 (by rw [srtI_len, List.length_map, HL.out]) (by omega) h3 b3)
  clear S h3 b3
  go_wp2_with (go_at_call 111; refine CP.out.mono ?_; rintro e w4 ⟨A', c', rfl, h4, b4⟩)
  go_ret
  exact ⟨A', c', rfl, h4, HB2.out.trans (b4.mono HB2.out.size)⟩
set_option maxHeartbeats 1600000 in
theorem showB_any (ka : Int) (va : V3) (A : Option Addr) (m c : Nat) (l : List P11) (w : World) (h : RdP w A m c l) (hn : m ≤ 4294967000) :
    Calls Tryz.prog 55 #[cellV ka va (.slice A m c)] w fun e w' => e = .returned (.agg #[.int .i64 1, .int .i64 ((numsB l).length : Nat), .string ⟨#[]⟩]) ∧ Below w.heap.size w w' := by
  obtain ⟨w1, hw1⟩ : ∃ w1, w1 = (w.alloc (cellRow ka va (.slice A m c))).alloc (valRow ⟨0, 0, ⟨#[]⟩⟩) := ⟨_, rfl⟩
  have hb1 : Below w.heap.size w w1 := by rw [hw1]; exact below_new (below_new (Below.refl _ _) _) _
  obtain ⟨c0, c1, c2, c3, c4⟩ := cell_row5 (show w1.heap[w.heap.size]? = some (cellRow ka va (.slice A m c)) by rw [hw1]; exact old_at _ (heap_alloc_new w _))
  have h2 : w1.heap[w.heap.size + 1]? = some (valRow ⟨0, 0, ⟨#[]⟩⟩) := by rw [hw1]; exact new_at _ _ _ (by simp)
  obtain ⟨N, hN⟩ : ∃ N, Hid ((numsB l).length = N) := ⟨_, rfl⟩
  have NU : Hid (Calls Tryz.prog 80 #[cellV ka va (.slice A m c)] w1 fun e w' => ∃ A' c', e = .returned (.slice A' N c') ∧ Below w1.heap.size w1 w') := by
    refine (numbersB_any ka va A m c l w1 (h.below hb1) hn).mono ?_
    rintro e w' ⟨A', c', rfl, _, hb⟩
    rw [hN.out]
    exact ⟨A', c', rfl, hb⟩
  rw [hN.out]
  have HB1 := Lib.hid hb1; have H2 := Lib.hid h2
  replace hw1 := Lib.hid hw1
  clear h hb1 h2
  go_enter Tryz.func55, Tryz.ntmps55
  go_upto_region 1 with fail
  rw [show (w.alloc (cellRow ka va (.slice A m c))).alloc (valRow ⟨0, 0, ⟨#[]⟩⟩) = w1 from hw1.out.symm]
  clear hw1
  go_wp2_with fail
  refine NU.out.mono ?_
  rintro e w2 ⟨A', c', rfl, b2⟩
  have r2 := row_below H2.out b2
  obtain ⟨d0, d1, d2⟩ := val_row r2
  have f0 := frozen_row r2
  have HR := Lib.hid r2
  have HB2 := Lib.hid (below_then HB1.out b2)
  clear NU b2 r2 c0 c1 c2 c3 c4
  go_wp2_with fail
  refine bodyPost_ret (v := .agg #[.int .i64 1, .int .i64 N, .string ⟨#[]⟩]) (results_cell_row rfl _ _ (w.heap.size + 1) 68 _ (0, 0) _ rfl (set3 HR.out) Tryz.underlying68 rfl (by kernel_rfl)) rfl ?_
  exact ⟨rfl, below_set3 HB2.out (by omega)⟩
end Go.Proofs.YtfljhnalmiibeaaGreat

namespace Go.Proofs.YtfljhnalmiibeaaGreat
set_option maxRecDepth 100000
open Go.RowKit Go.MapKept
variable {K : Type} [DecidableEq K]
/-- what is known of a map's type -/
structure KeyOf (P : Program) (mt kt vt : TypeId) (enc : K → Value) (z : Value) : Prop where
  und : P.underlying mt = some (.map kt vt)
  find : ∀ k es w, (Instr.findKey kt (enc k) es).run P w = (Instr.findAsking kt (enc k) es).run P w
  chk : ∀ em k w, (Instr.checkKey em 10000 kt (enc k)).run P w = .ok () w
  eq : ∀ a b w, (Op.equal kt (enc a) (enc b)).run P w = .ok (decide (a = b)) w
  zero : ∀ w, (zeroValue vt).run P w = .ok z w
  bits : ∀ k, Instr.sameBits 10000 (enc k) (enc k) = true
/-- an entry -/
structure EnK (K : Type) where
  k : K
  v : Value
  b : Nat
def entK (enc : K → Value) (e : EnK K) : MapEntry := { key := enc e.k, val := e.v, born := e.b }
def mapO (enc : K → Value) (es : List (EnK K)) (clock : Nat) : Obj := .map (es.map (entK enc)).toArray clock
/-- what is there under a key -/
def lookE : List (EnK K) → K → Option Value
  | [], _ => none
  | e :: r, k => if k = e.k then some e.v else lookE r k
def findE : List (EnK K) → K → Nat → Option (Nat × Value)
  | [], _, _ => none
  | e :: r, k, i => if k = e.k then some (i, e.v) else findE r k (i + 1)
/-- with a value under a key -/
def putE : List (EnK K) → K → Value → Nat → List (EnK K)
  | [], k, v, c => [⟨k, v, c⟩]
  | e :: r, k, v, c => if k = e.k then ⟨k, v, e.b⟩ :: r else e :: putE r k v c
def clkE (es : List (EnK K)) (k : K) (c : Nat) : Nat := if (lookE es k).isSome = true then c else c + 1
theorem findE_look : ∀ (es : List (EnK K)) (k : K) (i : Nat), (findE es k i).map (·.2) = lookE es k
  | [], _, _ => rfl
  | e :: r, k, i => by
    rw [findE, lookE]
    split
    · rfl
    · exact findE_look r k (i + 1)
theorem lookE_put (es : List (EnK K)) (k x : K) (v : Value) (c : Nat) : lookE (putE es k v c) x = if x = k then some v else lookE es x := by
  induction es with
  | nil => rw [putE, lookE]; rfl
  | cons e r ih =>
    rw [putE]
    by_cases h : k = e.k
    · rw [if_pos h, lookE, lookE, ← h]
      by_cases hx : x = k
      · rw [if_pos hx, if_pos hx]
      · rw [if_neg hx, if_neg hx, if_neg hx]
    · rw [if_neg h, lookE, lookE, ih]
      by_cases hx : x = e.k
      · rw [if_pos hx, if_pos hx, if_neg (fun he => h (he.symm.trans hx))]
      · rw [if_neg hx, if_neg hx]
theorem putE_new {es : List (EnK K)} {k : K} (h : lookE es k = none) (v : Value) (c : Nat) : putE es k v c = es ++ [⟨k, v, c⟩] := by
  induction es with
  | nil => rfl
  | cons e r ih =>
    rw [lookE] at h
    split at h
    · cases h
    · rename_i hne
      rw [putE, if_neg hne, ih h, List.cons_append]
theorem findE_none {es : List (EnK K)} {k : K} {i : Nat} : findE es k i = none ↔ lookE es k = none := by
  rw [← findE_look es k i]; cases findE es k i <;> simp
theorem findE_some : ∀ {es : List (EnK K)} {k : K} {i j : Nat} {v : Value}, findE es k i = some (j, v) → ∃ (n b : Nat), j = i + n ∧ es[n]? = some ⟨k, v, b⟩ ∧ ∀ v' c, es.modify n (fun e => ⟨k, v', e.b⟩) = putE es k v' c
  | [], _, _, _, _, h => by cases h
  | e :: r, k, i, j, v, h => by
    rw [findE] at h
    split at h
    · rename_i hk
      injection h with h
      injection h with h1 h2
      subst h1 h2
      refine ⟨0, e.b, rfl, ?_, fun v' c => ?_⟩
      · obtain ⟨a, b, c⟩ := e; simp only at hk; subst hk; rfl
      · rw [putE, if_pos hk]; rfl
    · rename_i hk
      obtain ⟨n, b, h1, h2, h3⟩ := findE_some h
      refine ⟨n + 1, b, by omega, by simpa using h2, fun v' c => ?_⟩
      rw [putE, if_neg hk, ← h3 v' c]; rfl
section
variable {P : Program} {mt kt vt : TypeId} {enc : K → Value} {z : Value}
theorem run_askingK (L : KeyOf P mt kt vt enc z) (k : K) (w : World) : ∀ (es : List (EnK K)) (i : Nat), (Instr.findAsking kt (enc k) (es.map (entK enc)) i).run P w = .ok (findE es k i) w
  | [], _ => rfl
  | e :: r, i => by
    rw [List.map_cons]
    unfold Instr.findAsking
    have hq := L.eq k e.k w
    simp only [entK, Sem.run_bind, hq, Result.andThen_ok]
    rw [findE]
    by_cases h : k = e.k
    · simp [h]
    · have := run_askingK L k w r (i + 1)
      simp only [h, decide_false, if_false, Bool.false_eq_true]
      exact this
theorem run_lookK (L : KeyOf P mt kt vt enc z) {w : World} {g : Nat} {es : List (EnK K)} {clock : Nat} (h : w.heap[g]? = some (mapO enc es clock)) (k : K) :
    (Instr.lookup mt (.map (some g)) (enc k) false).run P w = .ok ((lookE es k).getD z) w := by
  have hf := (L.find k (es.map (entK enc)) w).trans (run_askingK L k w es 0)
  have hq := L.chk
  have hz := L.zero w
  rw [← findE_look es k 0]
  have hg : (getObj g).run P w = .ok (.map (es.map (entK enc)).toArray clock) w := Go.MapKept.run_getObj_map h
  cases hr : findE es k 0 with
  | none => rw [hr] at hf; simp [Instr.lookup, run_underlying L.und, hg, hq, hf, hz, Result.andThen]
  | some r => rw [hr] at hf; obtain ⟨i, v⟩ := r; simp [Instr.lookup, run_underlying L.und, hg, hq, hf, Result.andThen]
theorem run_lookOkK (L : KeyOf P mt kt vt enc z) {w : World} {g : Nat} {es : List (EnK K)} {clock : Nat} (h : w.heap[g]? = some (mapO enc es clock)) (k : K) :
    (Instr.lookup mt (.map (some g)) (enc k) true).run P w = .ok (.tuple #[(lookE es k).getD z, .bool (lookE es k).isSome]) w := by
  have hf := (L.find k (es.map (entK enc)) w).trans (run_askingK L k w es 0)
  have hq := L.chk
  have hz := L.zero w
  rw [← findE_look es k 0]
  have hg : (getObj g).run P w = .ok (.map (es.map (entK enc)).toArray clock) w := Go.MapKept.run_getObj_map h
  cases hr : findE es k 0 with
  | none => rw [hr] at hf; simp [Instr.lookup, run_underlying L.und, hg, hq, hf, hz, Result.andThen]
  | some r => rw [hr] at hf; obtain ⟨i, v⟩ := r; simp [Instr.lookup, run_underlying L.und, hg, hq, hf, Result.andThen]
/-- the world with another object in a block -/
def putBlock (w : World) (g : Nat) (o : Obj) : World := { w with heap := w.heap.setIfInBounds g o }
theorem putBlock_size (w : World) (g : Nat) (o : Obj) : (putBlock w g o).heap.size = w.heap.size := by simp [putBlock]
theorem putBlock_at {w : World} {g : Nat} {o o' : Obj} (h : w.heap[g]? = some o') : (putBlock w g o).heap[g]? = some o := (heap_set h).1
theorem putBlock_other (w : World) {g k : Nat} (o : Obj) (h : k ≠ g) : (putBlock w g o).heap[k]? = w.heap[k]? := by
  show (w.heap.setIfInBounds g o)[k]? = _
  rw [Array.getElem?_setIfInBounds_ne (Ne.symm h)]
theorem putBlock_cell (w : World) {g : Nat} (o : Obj) (p : Addr) (h : p.block ≠ g) : (putBlock w g o).cell? p = w.cell? p := by
  simp only [World.cell?, putBlock_other w o h]
theorem below_putBlock {B : Nat} {a w : World} {g : Nat} {o : Obj} (h : Below B a w) (hg : B ≤ g) : Below B a (putBlock w g o) :=
  h.trans ⟨rfl, rfl, rfl, by rw [putBlock_size]; exact Nat.le_refl _, fun k hk => putBlock_other w o (by omega)⟩
theorem run_putK (L : KeyOf P mt kt vt enc z) {w : World} {g : Nat} {es : List (EnK K)} {clock : Nat} (h : w.heap[g]? = some (mapO enc es clock)) (k : K) (v : Value) :
    (Instr.mapUpdate mt (.map (some g)) (enc k) v).run P w = .ok () (putBlock w g (mapO enc (putE es k v clock) (clkE es k clock))) := by
  have hf := (L.find k (es.map (entK enc)) w).trans (run_askingK L k w es 0)
  have hq := L.chk
  have hg : (getObj g).run P w = .ok (.map (es.map (entK enc)).toArray clock) w := Go.MapKept.run_getObj_map h
  have hs := fun o => Go.MapKept.run_setObj_map (P := P) o h
  cases hr : findE es k 0 with
  | none =>
    rw [hr] at hf
    have hl := findE_none.1 hr
    have hc : clkE es k clock = clock + 1 := by rw [clkE, hl]; rfl
    rw [putE_new hl, hc]
    simp [Instr.mapUpdate, run_underlying L.und, hg, hq, hf, hs, Result.andThen, mapO, putBlock, entK]
  | some r =>
    obtain ⟨j, v0⟩ := r
    rw [hr] at hf
    obtain ⟨n, b, h1, h2, h3⟩ := findE_some hr
    rw [Nat.zero_add] at h1
    subst h1
    have hl : (lookE es k).isSome = true := by rw [← findE_look es k 0, hr]; rfl
    have hc : clkE es k clock = clock := by rw [clkE, if_pos hl]
    have hkey : ((es.map (entK enc)).toArray[j]?.map (·.key)).getD (enc k) = enc k := by simp [h2, entK]
    have hm : ((es.map (entK enc)).toArray.modify j fun e => { e with key := enc k, val := v }) = ((putE es k v clock).map (entK enc)).toArray := by
      rw [List.modify_toArray, ← h3 v clock]
      congr 1
      apply List.ext_getElem?
      intro i
      rw [List.getElem?_modify, List.getElem?_map, List.getElem?_map, List.getElem?_modify]
      by_cases hi : j = i
      · subst hi; simp [h2, entK]
      · simp [hi]
    rw [hc]
    simp only [Instr.mapUpdate, Sem.run_bind, run_underlying L.und, Result.andThen_ok, hg, hq, hf, hkey, Instr.keyThatStays, L.bits, if_true, Sem.run_pure, hm, hs, mapO, putBlock]
theorem run_entryK (L : KeyOf P mt kt vt enc z) {w : World} {g : Nat} {es : List (EnK K)} {clock : Nat} (h : w.heap[g]? = some (mapO enc es clock)) (k : K) (hn : lookE es k = none) :
    (Instr.mapEntry mt (.map (some g)) (enc k)).run P w = .ok (.tuple #[z, .int .i64 clock]) (putBlock w g (mapO enc (es ++ [⟨k, z, clock⟩]) (clock + 1))) := by
  have hf := (L.find k (es.map (entK enc)) w).trans (run_askingK L k w es 0)
  have hq := L.chk
  have hz := L.zero w
  have hg : (getObj g).run P w = .ok (.map (es.map (entK enc)).toArray clock) w := Go.MapKept.run_getObj_map h
  have hs := fun o => Go.MapKept.run_setObj_map (P := P) o h
  rw [findE_none.2 hn] at hf
  simp [Instr.mapEntry, run_underlying L.und, hg, hq, hf, hz, hs, Result.andThen, mapO, putBlock, entK, goInt]
end
theorem run_entryStoreK {P : Program} {mt : TypeId} {J : Type} {enc : J → Value} {w : World} {g : Nat} {es : List (EnK J)} {clock : Nat} {k : J} {y : Value} (h : w.heap[g]? = some (mapO enc (es ++ [⟨k, y, clock⟩]) (clock + 1))) (hb : ∀ e ∈ es, e.b < clock) (v : Value) :
    (Instr.entryStore mt (.map (some g)) (.int .i64 clock) v).run P w = .ok () (putBlock w g (mapO enc (es ++ [⟨k, v, clock⟩]) (clock + 1))) := by
  have hg : (getObj g).run P w = .ok (.map ((es ++ [(⟨k, y, clock⟩ : EnK J)]).map (entK enc)).toArray (clock + 1)) w := Go.MapKept.run_getObj_map h
  have hs := fun o => Go.MapKept.run_setObj_map (P := P) o h
  have hi : ((es ++ [(⟨k, y, clock⟩ : EnK J)]).map (entK enc)).toArray.findIdx? (fun e : MapEntry => (e.born : Int) == clock) = some es.length := by
    rw [List.findIdx?_toArray, List.map_append, List.findIdx?_append]
    have : (es.map (entK enc)).findIdx? (fun e : MapEntry => (e.born : Int) == clock) = none := by
      rw [List.findIdx?_eq_none_iff]
      intro x hx
      obtain ⟨e, he, rfl⟩ := List.mem_map.1 hx
      have := hb e he
      simp [entK]; omega
    rw [this]
    simp [entK]
  have hm : (((es ++ [(⟨k, y, clock⟩ : EnK J)]).map (entK enc)).toArray.modify es.length fun e : MapEntry => { e with val := v }) = ((es ++ [(⟨k, v, clock⟩ : EnK J)]).map (entK enc)).toArray := by
    rw [List.modify_toArray]
    congr 1
    apply List.ext_getElem?
    intro i
    rw [List.getElem?_modify, List.getElem?_map, List.getElem?_map]
    by_cases hi : es.length = i
    · subst hi; simp [entK]
    · simp only [hi, if_false]
      rcases Nat.lt_or_gt_of_ne hi with h1 | h1
      · rw [List.getElem?_eq_none (by simp; omega), List.getElem?_eq_none (by simp; omega)]; rfl
      · rw [List.getElem?_append_left h1, List.getElem?_append_left h1]; simp
  have ha : (asIntOf (Value.int IntKind.i64 (clock : Int))).run P w = .ok (.i64, (clock : Int)) w := rfl
  unfold Instr.entryStore
  simp only [Sem.run_bind, Sem.run_pure, Result.andThen_ok, hg, asInt, ha]
  rw [hi]
  simp only [hm]
  exact hs _
/-- what lies in a block, as the walk of a drawn region bears it -/
def AtO (g : Nat) (o : Obj) (W : World) : Prop := W.heap[g]? = some o
theorem AtO.drew (g : Nat) (o : Obj) (W : World) : AtO g o W.drew = AtO g o W := rfl
theorem AtO.alloc {K : Type} (g : Nat) (enc : K → Value) (es : List (EnK K)) (c : Nat) (W : World) (cs : Array Value) (t : TypeId) : AtO g (mapO enc es c) (W.alloc (.cells cs t)) = AtO g (mapO enc es c) W := by
  unfold AtO
  by_cases hq : g < W.heap.size
  · rw [Below.heap_alloc _ _ _ hq]
  · have e1 : W.heap[g]? = none := Array.getElem?_eq_none (by omega)
    rw [e1]
    by_cases hq2 : g = W.heap.size
    · rw [hq2, heap_alloc_new]; simp [mapO]
    · rw [Array.getElem?_eq_none (by rw [World.size_alloc]; omega)]
theorem AtO.put (g h : Nat) (o o' : Obj) (W : World) (hn : g ≠ h) : AtO g o (putBlock W h o') = AtO g o W := by
  unfold AtO; rw [putBlock_other _ _ hn]
end Go.Proofs.YtfljhnalmiibeaaGreat

namespace Go.Proofs.YtfljhnalmiibeaaGreat
set_option maxRecDepth 100000
open Go.RowKit
/-- a stamp -/
structure S3 where
  t : Int
  d : Int
  q : Int
deriving DecidableEq
def S3.cells (s : S3) : List Value := [.int .i64 s.t, .int .i64 s.d, .int .i64 s.q]
abbrev S3.agg (s : S3) : Value := .agg #[.int .i64 s.t, .int .i64 s.d, .int .i64 s.q]
instance : Inhabited S3 := ⟨⟨0, 0, 0⟩⟩
def cmpI (x y : Int) : Int := if x < y then -1 else if y < x then 1 else 0
def cmpS (a b : S3) : Int := if a.t ≠ b.t then cmpI a.t b.t else if a.d ≠ b.d then cmpI a.d b.d else cmpI a.q b.q
def lessS (a b : S3) : Bool := if a.t ≠ b.t then decide (a.t < b.t) else if a.d ≠ b.d then decide (a.d < b.d) else decide (a.q < b.q)
theorem cmpI_less (x y : Int) : decide (cmpI x y < 0) = decide (x < y) := by
  unfold cmpI; split
  · simp [*]
  · split <;> simp <;> omega
theorem cmpS_less (a b : S3) : decide (cmpS a b < 0) = lessS a b := by
  unfold cmpS lessS
  split
  · exact cmpI_less _ _
  · split <;> exact cmpI_less _ _
theorem s3_ext {a b : S3} (h1 : a.t = b.t) (h2 : a.d = b.d) (h3 : a.q = b.q) : a = b := by
  cases a; cases b; simp_all
theorem cmpS_self (a : S3) : cmpS a a = 0 := by simp [cmpS, cmpI]
theorem stamp_at {W : World} {g : Nat} {a b c : Value} {t : TypeId} {fr : Nat × Nat} (h : W.heap[g]? = some (.cells #[a, b, c] t fr)) :
    W.cell? ⟨g, 0, none⟩ = some a ∧ W.cell? ⟨g, 1, none⟩ = some b ∧ W.cell? ⟨g, 2, none⟩ = some c :=
  ⟨cell_row h 0, cell_row h 1, cell_row h 2⟩
end Go.Proofs.YtfljhnalmiibeaaGreat

