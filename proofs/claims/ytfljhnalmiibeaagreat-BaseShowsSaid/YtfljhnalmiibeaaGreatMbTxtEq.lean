/- Several texts laid together: TxtEq, TxtRight, TxtShow, CntMerge, SchMath. -/
import Derived.Test.YtfljhnalmiibeaaGreatMbBasMath
import Derived.BigQuiet
import Derived.Deep.QuietTactic
import Derived.Test.YtfljhnalmiibeaaGreatMbTxtHang
import Derived.Test.YtfljhnalmiibeaaGreatMbTxtWhole
import Derived.Test.YtfljhnalmiibeaaGreatMbStruct
namespace Go.Proofs.YtfljhnalmiibeaaGreat
set_option maxRecDepth 100000
open Go.RowKit
theorem eq_take {l m : List P11} {k : Nat} {x y : P11} (hx : l[k]? = some x) (hy : m[k]? = some y) (h : l.take k = m.take k) (hxy : x = y) : l.take (k + 1) = m.take (k + 1) := by
  rw [List.take_add_one, List.take_add_one, hx, hy, h, hxy]
theorem ne_at {l m : List P11} {k : Nat} {x y : P11} (hx : l[k]? = some x) (hy : m[k]? = some y) (h : x ≠ y) : l ≠ m := by
  rintro rfl
  rw [hx] at hy
  injection hy with hy
  exact h hy
set_option maxHeartbeats 6400000 in
theorem equalT_any (A B : Option Addr) (n m c d : Nat) (l l' : List P11) (w : World) (h : RdP w A n c l) (h' : RdP w B m d l') :
    Calls Tryz.prog 115 #[.slice A n c, .slice B m d] w fun e w' => e = .returned (.bool (decide (l = l'))) ∧ Below w.heap.size w w' := by
  have hle := h.le; have hle' := h'.le
  have HL := Lib.hid h.len; have HL' := Lib.hid h'.len
  obtain ⟨F, hF⟩ : ∃ F, Hid (decide (l = l') = F) := ⟨_, rfl⟩
  rw [hF.out]
  by_cases hnm : n = m
  rotate_left
  · have hF2 : Hid (false = F) := by
      show _ = _
      rw [← hF.out]
      exact (decide_eq_false (fun e => hnm (by rw [← HL.out, ← HL'.out, e]))).symm
    have e1 : ((n : Int) == (m : Int)) = false := by simpa using fun e => hnm (by omega)
    have e2 : (n == m) = false := by simpa using hnm
    clear h h' hnm
    go_enter Tryz.func115, Tryz.ntmps115
    go_wp2_with fail
    go_ret
    exact ⟨ret_bool hF2.out, Below.refl _ _⟩
  subst hnm
  have H1 := Lib.hid h; have H2 := Lib.hid h'
  clear h h'
  go_enter Tryz.func115, Tryz.ntmps115
  go_wp2_with fail
  go_loopw [13] (fun i wr => ∃ k : Nat, k ≤ n ∧ i = .int .i64 k ∧ Hid (l.take k = l'.take k) ∧ Hid (Below w.heap.size w wr)) (fun i _ => n - (intOf i).toNat)
  case atStart => exact ⟨0, Nat.zero_le _, rfl, by show _ = _; simp, Below.refl _ _⟩
  case round =>
    obtain ⟨k, hk, rfl, HT, HB⟩ := hrel
    by_cases hlt : k < n
    · obtain ⟨b, o, x, rfl, hb, hx, hld⟩ := H1.out.part hlt
      obtain ⟨b', o', y, rfl, hb', hy, hld'⟩ := H2.out.part hlt
      obtain ⟨c0, c1, c2, c3, c4, c5, c6, c7, c8, c9, c10⟩ := hld wr HB.out
      obtain ⟨d0, d1, d2, d3, d4, d5, d6, d7, d8, d9, d10⟩ := hld' wr HB.out
      have z1 : (0 : Int) ≤ (k : Int) := by omega
      have z2 : (k : Int) < (n : Int) := by omega
      obtain ⟨q, hq⟩ : ∃ q, Hid (decide (x = y) = q) := ⟨_, rfl⟩
      have EQ : ∀ W, (Op.equalIn 10000 105 (.agg #[.int .i64 x.v.k, .int .i64 x.v.n, .string x.v.s, .int .i64 x.d.d, .int .i64 x.d.s, .int .i64 x.i, .int .i64 x.t, .int .i64 x.a.d, .int .i64 x.a.s, .int .i64 x.j, .bool x.g])
        (.agg #[.int .i64 y.v.k, .int .i64 y.v.n, .string y.v.s, .int .i64 y.d.d, .int .i64 y.d.s, .int .i64 y.i, .int .i64 y.t, .int .i64 y.a.d, .int .i64 y.a.s, .int .i64 y.j, .bool y.g])).run Tryz.prog W = .ok q W := fun W => by rw [← hq.out]; exact run_equalIn_part x y W
      have HN : Hid (q = true → l.take (k + 1) = l'.take (k + 1)) := fun e => eq_take hx hy HT.out (of_decide_eq_true (hq.out.trans e))
      have HF : Hid (q = false → false = F) := fun e => by rw [← hF.out]; exact (decide_eq_false (ne_at hx hy (of_decide_eq_false (hq.out.trans e)))).symm
      clear hld hld' hx hy hq HT
      go_wp2_with fail
      go_quiet (fail)
      have HB2 := Lib.hid (below_drewN HB.out nq)
      generalize wr.drewN nq = w3 at HB2 ⊢
      clear c0 c1 c2 c3 c4 c5 c6 c7 c8 c9 c10 d0 d1 d2 d3 d4 d5 d6 d7 d8 d9 d10 EQ HB
      cases q with
      | true =>
        have HN2 := Lib.hid (HN.out rfl)
        go_wp2_with fail
        exact ⟨⟨k + 1, by omega, by go_num, HN2, HB2⟩, by simp [intOf]; omega⟩
      | false =>
        have HF2 := Lib.hid (HF.out rfl)
        go_wp2_with fail
        go_ret
        exact ⟨ret_bool HF2.out, HB2.out⟩
    · have hF2 : Hid (true = F) := by
        have h1 := HT.out
        rw [List.take_of_length_le (by have := HL.out; omega), List.take_of_length_le (by have := HL'.out; omega)] at h1
        show _ = _
        rw [← hF.out]; exact (decide_eq_true h1).symm
      go_wp2_with fail
      go_ret
      exact ⟨ret_bool hF2.out, HB.out⟩
end Go.Proofs.YtfljhnalmiibeaaGreat

namespace Go.Proofs.YtfljhnalmiibeaaGreat
set_option maxRecDepth 100000
open Go.RowKit
abbrev zeroT : V3 := ⟨0, 0, ⟨#[]⟩⟩
/-- why a text may not be -/
def rightT10 (k : Int) (v : V3) (l : List P11) : Int := if k = 4 then (if v = zeroT ∧ WholeT l then (if 2000 < l.length then 2 else if l = ordT l then 0 else 3) else 1) else 6
theorem rightT10_ok {k : Int} {v : V3} {l : List P11} : rightT10 k v l = 0 ↔ k = 4 ∧ v = zeroT ∧ WholeT l ∧ l.length ≤ 2000 ∧ ordT l = l := by
  unfold rightT10
  constructor
  · intro h
    split at h
    · rename_i h1
      split at h
      · rename_i h2
        split at h
        · cases h
        · rename_i h3
          split at h
          · rename_i h4; exact ⟨h1, h2.1, h2.2, by omega, h4.symm⟩
          · cases h
      · cases h
    · cases h
  · rintro ⟨h1, h2, h3, h4, h5⟩
    rw [if_pos h1, if_pos ⟨h2, h3⟩, if_neg (by omega), if_pos h5.symm]
theorem rightT10_3 {v : V3} {l : List P11} (h1 : v = zeroT) (h2 : WholeT l) (h3 : ¬ 2000 < l.length) : rightT10 4 v l = if l = ordT l then 0 else 3 := by
  rw [rightT10, if_pos rfl, if_pos ⟨h1, h2⟩, if_neg h3]
set_option maxHeartbeats 6400000 in
theorem rightT_any (k : Int) (v : V3) (A : Option Addr) (n c : Nat) (l : List P11) (w : World) (h : RdP w A n c l) (hn : n ≤ 4294967000) :
    Calls Tryz.prog 81 #[cellV k v (.slice A n c)] w fun e w' => e = .returned (.int .i64 (rightT10 k v l)) ∧ Below w.heap.size w w' := by
  obtain ⟨w1, hw1⟩ : ∃ w1, w1 = w.alloc (cellRow k v (.slice A n c)) := ⟨_, rfl⟩
  have hb1 : Below w.heap.size w w1 := by rw [hw1]; exact below_new (Below.refl _ _) _
  have hnew : w1.heap[w.heap.size]? = some (cellRow k v (.slice A n c)) := by rw [hw1]; exact heap_alloc_new w _
  obtain ⟨c0, c1, c2, c3, c4⟩ := cell_row5 hnew
  have HRD := Lib.hid (h.below hb1)
  have HL := Lib.hid h.len
  have hle := h.le
  have HB1 := Lib.hid hb1; have HNEW := Lib.hid hnew; have HN := Lib.hid hn
  obtain ⟨F, hF⟩ : ∃ F, Hid (rightT10 k v l = F) := ⟨_, rfl⟩
  rw [hF.out]
  replace hw1 := Lib.hid hw1
  clear h hb1 hnew hn
  by_cases hk : k = 4
  rotate_left
  · have hF2 : Hid (6 = F) := by show _ = _; rw [← hF.out, rightT10, if_neg hk]
    have e1 : (k == 4) = false := by simpa using hk
    clear hk
    go_enter Tryz.func81, Tryz.ntmps81
    go_upto_region 1 with fail
    rw [show w.alloc (cellRow k v (.slice A n c)) = w1 from hw1.out.symm]
    clear hw1
    go_wp2_with fail
    go_ret
    exact ⟨ret_int hF2.out, HB1.out⟩
  obtain rfl := hk
  obtain ⟨q, hq⟩ : ∃ q, Hid (decide (v = zeroT) = q) := ⟨_, rfl⟩
  have EQ : ∀ W, (Op.equalIn 10000 68 (.agg #[.int .i64 v.k, .int .i64 v.n, .string v.s]) (.agg #[.int .i64 0, .int .i64 0, .string ⟨#[]⟩])).run Tryz.prog W = .ok q W := fun W => by rw [← hq.out]; exact run_equalIn_valF 9998 v zeroT W
  cases q with
  | false =>
    have hF2 : Hid (1 = F) := by
      show _ = _
      rw [← hF.out, rightT10, if_pos rfl, if_neg (fun e => of_decide_eq_false hq.out e.1)]
    go_enter Tryz.func81, Tryz.ntmps81
    go_upto_region 1 with fail
    rw [show w.alloc (cellRow 4 v (.slice A n c)) = w1 from hw1.out.symm]
    clear hw1
    go_wp2_with fail
    go_ret
    exact ⟨ret_int hF2.out, HB1.out⟩
  | true =>
    have hv0 : Hid (v = zeroT) := by show v = zeroT; exact of_decide_eq_true hq.out
    obtain ⟨r, hr, WH⟩ : ∃ r, Hid (decide (WholeT l) = r) ∧ Hid (Calls Tryz.prog 114 #[.slice A n c] w1 fun e w' => e = .returned (.bool r) ∧ Below w1.heap.size w1 w') := ⟨_, rfl, whole_any A n c l w1 HRD.out HN.out⟩
    go_enter Tryz.func81, Tryz.ntmps81
    go_upto_region 1 with fail
    rw [show w.alloc (cellRow 4 v (.slice A n c)) = w1 from hw1.out.symm]
    clear hw1
    go_wp2_with fail
    refine WH.out.mono ?_
    rintro e w2 ⟨rfl, b2⟩
    have HB2 := Lib.hid (below_then HB1.out b2)
    have HRD2 := Lib.hid (HRD.out.below b2)
    have HN2 := Lib.hid (row_below HNEW.out b2)
    obtain ⟨d0, d1, d2, d3, d4⟩ := cell_row5 HN2.out
    clear WH b2 c0 c1 c2 c3 c4 EQ HRD HNEW
    cases r with
    | false =>
      have hF2 : Hid (1 = F) := by
        show _ = _
        rw [← hF.out, rightT10, if_pos rfl, if_neg (fun e => of_decide_eq_false hr.out e.2)]
      go_wp2_with fail
      go_ret
      exact ⟨ret_int hF2.out, HB2.out⟩
    | true =>
      have hw : Hid (WholeT l) := by show WholeT l; exact of_decide_eq_true hr.out
      by_cases h2 : (2000 : Int) < (n : Int)
      · have h2n : 2000 < n := by omega
        have hF2 : Hid (2 = F) := by
          show _ = _
          rw [← hF.out, rightT10, if_pos rfl, if_pos ⟨hv0.out, hw.out⟩, if_pos (by rw [HL.out]; exact h2n)]
        go_wp2_with fail
        go_ret
        exact ⟨ret_int hF2.out, HB2.out⟩
      · have h2n : ¬ 2000 < n := by omega
        have hd1 : decide ((2000 : Int) < (n : Int)) = false := decide_eq_false h2
        have hd2 : decide (2000 < n) = false := decide_eq_false h2n
        obtain ⟨O, hO⟩ : ∃ O, Hid (ordT l = O) := ⟨_, rfl⟩
        have ORD : Hid (∀ W, Below w2.heap.size w2 W → Calls Tryz.prog 116 #[.slice A n c] W fun e w' => ∃ A' c', e = .returned (.slice A' n c') ∧ RdP w' A' n c' O ∧ Below W.heap.size W w') := fun W hW => by
          rw [← hO.out]; exact ordered_any A n c l W (HRD2.out.below hW) HN.out hw.out
        obtain ⟨r2, hr2⟩ : ∃ r2, Hid (decide (l = O) = r2) := ⟨_, rfl⟩
        have EQL : Hid (∀ W A' c', RdP W A n c l → RdP W A' n c' O → Calls Tryz.prog 115 #[.slice A n c, .slice A' n c'] W fun e w' => e = .returned (.bool r2) ∧ Below W.heap.size W w') := fun W A' c' h1 h2 => by
          rw [← hr2.out]; exact equalT_any A A' n n c c' l O W h1 h2
        have K : Hid (∀ W, Below w2.heap.size w2 W → W.cell? ⟨w.heap.size, 4, none⟩ = some (.slice A n c)) := fun W hW => (cell_row5 (row_below HN2.out hW)).2.2.2.2
        have hF2 : Hid ((if r2 = true then 0 else 3) = F) := by
          show _ = _
          rw [← hF.out, rightT10_3 hv0.out hw.out (by rw [HL.out]; exact h2n), hO.out, ← hr2.out]
          by_cases he : l = O <;> simp [he]
        clear hw hO hr2 hr
        go_wp2_with fail
        go_region_held3 (fun W => Below w2.heap.size w2 W ∧ W.cell? ⟨w.heap.size, 4, none⟩ = some (.slice A n c))
          (first
            | (refine ⟨?_, K.out _ ?_⟩ <;> (go_split_ands; (first | assumption | exact (Below.refl _ _).drew | exact below_then (by assumption) bo | exact below_then (by assumption) bq))))
          (first
            | (go_at_call 116; (try go_split_ands); refine (ORD.out _ (by assumption)).mono ?_; rintro e wx ⟨A', c', rfl, hrO, bo⟩; have hbo := below_then (by assumption : Below w2.heap.size w2 _) bo)
            | (go_at_call 115; refine (EQL.out _ _ _ (HRD2.out.below hbo) hrO).mono ?_; rintro e wy ⟨rfl, bq⟩))
        all_goals
          have HB4 := Lib.hid (below_then HB2.out (below_then hbo bq))
          clear K ORD EQL hrO bo bq hbo
          cases r2 with
          | true =>
            have hF3 : Hid (0 = F) := hF2.out
            go_wp2_with fail
            go_ret
            exact ⟨ret_int hF3.out, HB4.out⟩
          | false =>
            have hF3 : Hid (3 = F) := hF2.out
            go_wp2_with fail
            go_ret
            exact ⟨ret_int hF3.out, HB4.out⟩
end Go.Proofs.YtfljhnalmiibeaaGreat

namespace Go.Proofs.YtfljhnalmiibeaaGreat
set_option maxRecDepth 100000
open Go.RowKit
/-- the bytes that a text shows -/
def showL (l : List P11) : List Int := ((l.filter fun p => !p.g).map fun p => p.v.n).take 200
def showT (k : Int) (v : V3) (l : List P11) : V3 := if rightT10 k v l = 0 then ⟨2, 0, textOf (showL l)⟩ else zeroT
theorem showL_le (l : List P11) : (showL l).length ≤ 200 := by rw [showL, List.length_take]; omega
theorem showL_next {l : List P11} {k : Nat} {x : P11} (hx : l[k]? = some x) : showL (l.take (k + 1)) = if x.g = false ∧ (showL (l.take k)).length < 200 then showL (l.take k) ++ [x.v.n] else showL (l.take k) := by
  unfold showL
  rw [take_succ hx, List.filter_append, List.map_append]
  generalize ((l.take k).filter fun p => !p.g).map (fun p => p.v.n) = y
  cases hg : x.g with
  | true => simp [hg]
  | false =>
    by_cases h : (y.take 200).length < 200
    · rw [if_pos ⟨rfl, h⟩]
      rw [List.length_take] at h
      have e1 : y.take 200 = y := List.take_of_length_le (by omega)
      have e2 : ([x].filter fun p => !p.g).map (fun p => p.v.n) = [x.v.n] := by simp [hg]
      rw [e1, e2]
      exact List.take_of_length_le (by rw [List.length_append]; simp; omega)
    · rw [if_neg (fun e => h e.2)]
      rw [List.length_take] at h
      rw [List.take_append_of_le_length (by omega)]
theorem wrap_u8 {z : Int} (h : 0 ≤ z ∧ z ≤ 255) : IntKind.u8.wrap z = z := by
  simp [IntKind.wrap, IntKind.bits, IntKind.signed]; omega
theorem Tryz.infoU8T : (Tryz.prog.info? 5).map (fun i => (i.zero, i.size, i.bytes)) = some (some (.int .u8 0), 1, 1) := by kernel_rfl
set_option maxHeartbeats 6400000 in
theorem showT_any (k : Int) (v : V3) (A : Option Addr) (n c : Nat) (l : List P11) (w : World) (h : RdP w A n c l) (hn : n ≤ 4294967000) :
    Calls Tryz.prog 56 #[cellV k v (.slice A n c)] w fun e w' => e = .returned (showT k v l).agg ∧ Below w.heap.size w w' := by
  obtain ⟨w1, hw1⟩ : ∃ w1, w1 = (w.alloc (cellRow k v (.slice A n c))).alloc (valRow zeroT) := ⟨_, rfl⟩
  have hb1 : Below w.heap.size w w1 := by rw [hw1]; exact below_new (below_new (Below.refl _ _) _) _
  have hnew : w1.heap[w.heap.size]? = some (cellRow k v (.slice A n c)) := by rw [hw1]; exact heap_past (by simp) (heap_alloc_new w _)
  have hval : w1.heap[w.heap.size + 1]? = some (valRow zeroT) := by rw [hw1]; exact heap_at (by simp)
  obtain ⟨c0, c1, c2, c3, c4⟩ := cell_row5 hnew
  have HRD := Lib.hid (h.below hb1)
  have HL := Lib.hid h.len
  have hle := h.le
  have HB1 := Lib.hid hb1; have HNEW := Lib.hid hnew; have HVAL := Lib.hid hval; have HN := Lib.hid hn
  obtain ⟨V, hV⟩ : ∃ V, Hid (showT k v l = V) := ⟨_, rfl⟩
  rw [hV.out]
  obtain ⟨r, hr, RT⟩ : ∃ r, Hid (rightT10 k v l = r) ∧ Hid (Calls Tryz.prog 81 #[cellV k v (.slice A n c)] w1 fun e w' => e = .returned (.int .i64 r) ∧ Below w1.heap.size w1 w') := ⟨_, rfl, rightT_any k v A n c l w1 HRD.out hn⟩
  have hg1 : Hid (w.heap.size + 1 < w1.heap.size) := (Array.getElem?_eq_some_iff.1 hval).1
  replace hw1 := Lib.hid hw1
  clear h hb1 hnew hval hn
  go_enter Tryz.func56, Tryz.ntmps56
  go_upto_region 1 with fail
  rw [show (w.alloc (cellRow k v (.slice A n c))).alloc (valRow zeroT) = w1 from hw1.out.symm]
  clear hw1
  go_wp2_with fail
  refine RT.out.mono ?_
  rintro e w2 ⟨rfl, b2⟩
  have HB2 := Lib.hid (below_then HB1.out b2)
  have HRD2 := Lib.hid (HRD.out.below b2)
  have HN2 := Lib.hid (row_below HNEW.out b2)
  have HV2 := Lib.hid (row_below HVAL.out b2)
  have hg2 : Hid (w.heap.size + 1 < w2.heap.size) := Nat.lt_of_lt_of_le hg1.out b2.size
  clear RT b2 c0 c1 c2 c3 c4 HRD HNEW HVAL hg1
  by_cases h0 : r = 0
  rotate_left
  · have e1 : (r == 0) = false := by simpa using h0
    have hV2 : Hid (V = zeroT) := by show _ = _; rw [← hV.out, showT, hr.out, if_neg h0]
    obtain ⟨d0, d1, d2⟩ := val_row HV2.out
    have f0 := frozen_row HV2.out
    clear h0
    go_wp2_with fail
    rw [hV2.out]
    refine bodyPost_ret (v := zeroT.agg) (results_cell_row rfl _ _ (w.heap.size + 1) 68 _ (0, 0) _ rfl (set3 HV2.out) Tryz.underlying68 rfl (by kernel_rfl)) rfl ?_
    exact ⟨rfl, below_set3 HB2.out (by omega)⟩
  · obtain rfl := h0
    obtain ⟨d0, d1, d2, d3, d4⟩ := cell_row5 HN2.out
    have hform : Hid (∀ x ∈ l, 0 ≤ x.v.n ∧ x.v.n ≤ 255) := fun x hx => ((formedT_iff x).1 ((rightT10_ok.1 hr.out).2.2.1.1 x hx)).2.1
    have hV2 : Hid (V = ⟨2, 0, textOf (showL l)⟩) := by show _ = _; rw [← hV.out, showT, hr.out, if_pos rfl]
    clear hr hV
    go_wp2_with fail
    go_loopw [3, 13] (fun s i wr => ∃ (j : Nat) (S : List Int), j ≤ n ∧ i = .int .i64 j ∧ Hid (S = showL (l.take j)) ∧ (∃ B d, s = .slice B S.length d) ∧ Hid (wr.ownsRow w2.heap.size 5 1 s S.length (vals .u8 S)) ∧ Hid (Below w2.heap.size w2 wr)) (fun _ i _ => n - (intOf i).toNat)
    case atStart => exact ⟨0, [], Nat.zero_le _, rfl, by show _ = _; simp [showL], ⟨none, 0, rfl⟩, World.ownsRow_nil _ _ _ _, Below.refl _ _⟩
    case round =>
      clear d0 d1 d2 d3 d4
      obtain ⟨j, S, hj, rfl, hS, ⟨B, d, rfl⟩, HO, HB⟩ := hrel
      by_cases hlt : j < n
      · obtain ⟨b, o, x, rfl, hb, hx, hld⟩ := HRD2.out.part hlt
        obtain ⟨c0, c1, c2, c3, c4, c5, c6, c7, c8, c9, c10⟩ := hld wr HB.out
        have hnx := Lib.hid (showL_next hx)
        have hbyte := wrap_u8 (hform.out x (List.mem_of_getElem? hx))
        have hS2 : Hid (S.length ≤ 200) := by show _ ≤ _; rw [hS.out]; exact showL_le _
        obtain ⟨w3, hw3⟩ : ∃ w3, w3 = wr.alloc (partCells x) := ⟨_, rfl⟩
        have bb : Below wr.heap.size wr w3 := by rw [hw3]; exact below_new (Below.refl _ _) _
        have hnew : w3.heap[wr.heap.size]? = some (partCells x) := by rw [hw3]; exact heap_alloc_new _ _
        obtain ⟨e0, e1, e2, e3, e4, e5, e6, e7, e8, e9, e10⟩ := part_row hnew
        have HO3 := Lib.hid (own_below HO.out bb)
        have HB3 := Lib.hid (below_then HB.out bb)
        have hle3 : S.length ≤ 9223372036854775807 := by have := hS2.out; omega
        clear hld hx bb hnew HO HB
        replace hw3 := Lib.hid hw3
        go_upto_region 7 with fail
        rw [show wr.alloc (partCells x) = w3 from hw3.out.symm]
        clear hw3 c0 c1 c2 c3 c4 c5 c6 c7 c8 c9 c10
        obtain ⟨gb, hgb⟩ : ∃ gb, Hid (x.g = gb) := ⟨_, rfl⟩
        rw [hgb.out] at e10 hnx
        cases gb with
        | true =>
          have hS3 : Hid (S = showL (l.take (j + 1))) := by show _ = _; rw [hnx.out, if_neg (by simp), hS.out]
          clear hbyte
          go_wp2_with fail
          exact ⟨⟨j + 1, S, by omega, by go_num, hS3, ⟨_, _, rfl⟩, HO3, HB3⟩, by simp [intOf]; omega⟩
        | false =>
          by_cases hl2 : (S.length : Int) < 200
          · have hl3 : S.length < 200 := by omega
            have hl4 : decide (S.length < 200) = true := decide_eq_true hl3
            have hl5 : decide ((S.length : Int) < 200) = true := decide_eq_true hl2
            have hS3 : Hid (S ++ [x.v.n] = showL (l.take (j + 1))) := by show _ = _; rw [hnx.out, hS.out] ; rw [hS.out] at hl3; rw [if_pos ⟨rfl, hl3⟩]
            have hvs : Hid (vals .u8 S ++ [Value.int .u8 x.v.n] = vals .u8 (S ++ [x.v.n])) := by show _ = _; simp [vals]
            go_wp2_with (at_builtin; (refine wpList_push rfl (.tmp 25) (.tmp 30) 130 rfl 5 Tryz.underlying130 _ 1 Tryz.infoU8T rfl (by decide) w2.heap.size (.slice B S.length d) S.length (vals .u8 S) (.int .u8 x.v.n) rfl rfl HO3.out rfl (by omega) HB3.out HB3.out.size ?_; intro v4 w4 hw4 hb4 _; rw [hvs.out] at hw4; obtain ⟨B4, d4, rfl, _⟩ := Rd.of_own hw4; have HO4 := Lib.hid hw4; have HB4 := Lib.hid hb4; clear hw4 hb4))
            refine ⟨⟨j + 1, S ++ [x.v.n], by omega, by go_num, hS3, ⟨B4, d4, by simp⟩, ?_, HB4⟩, by simp [intOf]; omega⟩
            have e5 : (S ++ [x.v.n]).length = S.length + 1 := by simp
            rw [e5]; exact HO4
          · have hl3 : ¬ S.length < 200 := by omega
            have hl4 : decide (S.length < 200) = false := decide_eq_false hl3
            have hl5 : decide ((S.length : Int) < 200) = false := decide_eq_false hl2
            have hS3 : Hid (S = showL (l.take (j + 1))) := by show _ = _; rw [hnx.out, hS.out]; rw [hS.out] at hl3; rw [if_neg (fun e => hl3 e.2)]
            clear hbyte
            go_wp2_with fail
            exact ⟨⟨j + 1, S, by omega, by go_num, hS3, ⟨_, _, rfl⟩, HO3, HB3⟩, by simp [intOf]; omega⟩
      · have hS3 : S = showL l := by
          rw [hS.out, List.take_of_length_le (by have := HL.out; omega)]
        have hrd := Rd.own_ HO.out
        have TX : (convert 130 9 (.slice B S.length d)).run Tryz.prog wr = .ok (.string (textOf S)) wr := run_toText 130 9 5 Tryz.underlying130 Tryz.underlying5 Tryz.underlying9 hrd
        have HV4 := Lib.hid (row_below HV2.out HB.out)
        obtain ⟨d0, d1, d2⟩ := val_row HV4.out
        have f0 := frozen_row HV4.out
        have hV3 : Hid (V = ⟨2, 0, textOf S⟩) := by show _ = _; rw [hV2.out, hS3]
        have HB4 := Lib.hid (below_then HB2.out HB.out)
        clear hS3 hrd HO HB hS
        go_wp2_with fail
        rw [hV3.out]
        refine bodyPost_ret (v := V3.agg ⟨2, 0, textOf S⟩) (results_cell_row rfl _ _ (w.heap.size + 1) 68 _ (0, 0) _ rfl (set3 HV4.out) Tryz.underlying68 rfl (by kernel_rfl)) rfl ?_
        exact ⟨rfl, below_set3 HB4.out (by omega)⟩
end Go.Proofs.YtfljhnalmiibeaaGreat

namespace Go.Proofs.YtfljhnalmiibeaaGreat
set_option maxRecDepth 100000
open Go.RowKit
theorem set3r {w : World} {g : Nat} {a b c x y z : Value} {t : TypeId} {fr : Nat × Nat} (h : w.heap[g]? = some (.cells #[a, b, c] t fr)) :
    (((w.setCell ⟨g, 0, none⟩ x).setCell ⟨g, 1, none⟩ y).setCell ⟨g, 2, none⟩ z).heap[g]? = some (.cells #[x, y, z] t fr) := set3 h
/-- what a cell shows -/
def showC (x : C5) : V3 := if x.right = 0 then x.v else ⟨0, 0, noS⟩
set_option maxHeartbeats 1600000 in
theorem cntShow_any (x : C5) (w : World) : Calls Tryz.prog 54 #[x.val] w fun e w' => e = .returned (showC x).agg ∧ Below w.heap.size w w' := by
  obtain ⟨g, hg⟩ : ∃ g, g = w.heap.size := ⟨_, rfl⟩
  obtain ⟨w1, hw1⟩ : ∃ w1, w1 = (w.alloc (cellRow x.k x.v (.slice x.A x.n x.c))).alloc (valRow ⟨0, 0, noS⟩) := ⟨_, rfl⟩
  have b1 : Below w.heap.size w w1 := by rw [hw1]; exact below_new (below_new (Below.refl _ _) _) _
  have r1 : w1.heap[g]? = some (cellRow x.k x.v (.slice x.A x.n x.c)) := by rw [hw1, hg]; exact row_below (heap_alloc_new _ _) (below_new (Below.refl _ _) _)
  have r2 : w1.heap[g + 1]? = some (valRow ⟨0, 0, noS⟩) := by
    have := heap_alloc_new (w.alloc (cellRow x.k x.v (.slice x.A x.n x.c))) (valRow ⟨0, 0, noS⟩)
    rw [World.size_alloc, ← hg, ← hw1] at this; exact this
  obtain ⟨a0, a1, a2, a3, a4⟩ := cell_row5 r1
  obtain ⟨r, hr⟩ : ∃ r, Hid (x.right = r) := ⟨_, rfl⟩
  have C := Lib.hid (cntRight_any x.k x.v x.A x.n x.c w1)
  rw [show rightN x.k x.v x.n = r from hr.out] at C
  obtain ⟨F, hF⟩ : ∃ F, Hid (showC x = F) := ⟨_, rfl⟩
  rw [hF.out]
  have HG := Lib.hid hg; have HW1 := Lib.hid hw1; have HB := Lib.hid b1; have R1 := Lib.hid r1; have R2 := Lib.hid r2
  clear hg hw1 b1 r1 r2
  go_enter Tryz.func54, Tryz.ntmps54
  go_upto_region 1 with fail
  rw [← HG.out]
  rw [show (w.alloc (cellRow x.k x.v (.slice x.A x.n x.c))).alloc (Obj.cells #[Value.int .i64 0, .int .i64 0, .string ⟨#[]⟩] 68) = w1 from HW1.out.symm]
  clear HW1
  go_wp2_with fail
  refine C.out.mono ?_
  rintro e w2 ⟨rfl, b2⟩
  have R3 := Lib.hid (row_below R2.out b2)
  obtain ⟨a0, a1, a2, a3, a4⟩ := cell_row5 (row_below R1.out b2)
  have hgw : Hid (w.heap.size ≤ g + 1) := by rw [HG.out]; exact Nat.le_succ _
  have B2 := Lib.hid (below_then HB.out b2)
  obtain ⟨e0, e1, e2⟩ := val_row R3.out
  have f1 := frozen_row R3.out
  dsimp only at e0 e1 e2
  clear b2 C R1 R2 HB
  by_cases h0 : r = 0
  · have hx : x.right = 0 := by rw [hr.out, h0]
    have HC : Hid (F = x.v) := by show _ = _; rw [← hF.out, showC, if_pos hx]
    subst h0
    clear hr hF hx
    go_wp2_with fail
    refine bodyPost_ret (v := (x.v : V3).agg) (results_cell_row rfl _ _ (g + 1) 68 _ (0, 0) _ rfl (set3r R3.out) Tryz.underlying68 rfl (by kernel_rfl)) rfl ?_
    exact ⟨by rw [HC.out], ((B2.out.setCell hgw.out _).setCell hgw.out _).setCell hgw.out _⟩
  · have hx : ¬ x.right = 0 := by rw [hr.out]; exact h0
    have HC : Hid (F = ⟨0, 0, noS⟩) := by show _ = _; rw [← hF.out, showC, if_neg hx]
    clear hr hF hx
    go_wp2_with fail
    refine bodyPost_ret (v := (⟨0, 0, noS⟩ : V3).agg) (results_cell_row rfl _ _ (g + 1) 68 _ (0, 0) _ rfl (set3r R3.out) Tryz.underlying68 rfl (by kernel_rfl)) rfl ?_
    exact ⟨by rw [HC.out], ((B2.out.setCell hgw.out _).setCell hgw.out _).setCell hgw.out _⟩
end Go.Proofs.YtfljhnalmiibeaaGreat

namespace Go.Proofs.YtfljhnalmiibeaaGreat
set_option maxRecDepth 100000
open Go.RowKit
/-- three numbers: a foreign key, a bound -/
structure F3 where
  a : Int
  b : Int
  c : Int
  deriving DecidableEq
def F3.cells (x : F3) : List Value := [.int .i64 x.a, .int .i64 x.b, .int .i64 x.c]
abbrev F3.agg (x : F3) : Value := .agg #[.int .i64 x.a, .int .i64 x.b, .int .i64 x.c]
theorem f3len (x : F3) : x.cells.length = 3 := rfl
def lowB (b : Int) : Bool := decide (97 ≤ b) && decide (b ≤ 122)
def digB (b : Int) : Bool := decide (48 ≤ b) && decide (b ≤ 57)
def okB11 (b : Int) : Bool := lowB b || digB b || b == 95
def nameL (l : List Int) : Bool := decide (1 ≤ l.length) && decide (l.length ≤ 12) && lowB (l.getD 0 0) && l.all okB11
def nameZ (s : ByteArray) : Bool := nameL (sbytes s)
/-- a table, and where its parts lie -/
structure T6 where
  nm : ByteArray
  ca : Option Addr
  nc : Nat
  cc : Nat
  cols : List C4
  ua : Option Addr
  nu : Nat
  uc : Nat
  uni : List Int
  ha : Option Addr
  nh : Nat
  hc : Nat
  fa : Option Addr
  nf : Nat
  fc : Nat
  fks : List F3
  sa : Option Addr
  ns : Nat
  sc : Nat
  sums : List F3
def T6.cells (t : T6) : List Value := [.string t.nm, .slice t.ca t.nc t.cc, .slice t.ua t.nu t.uc, .slice t.ha t.nh t.hc, .slice t.fa t.nf t.fc, .slice t.sa t.ns t.sc]
abbrev T6.agg (t : T6) : Value := .agg #[.string t.nm, .slice t.ca t.nc t.cc, .slice t.ua t.nu t.uc, .slice t.ha t.nh t.hc, .slice t.fa t.nf t.fc, .slice t.sa t.ns t.sc]
theorem t6len (t : T6) : t.cells.length = 6 := rfl
/-- the first error of so many -/
def firstE : Nat → (Nat → Int) → Int
  | 0, _ => 0
  | n + 1, f => if f 0 = 0 then firstE n (fun i => f (i + 1)) else f 0
theorem firstE_ext : ∀ (n : Nat) (f g : Nat → Int), (∀ i, i < n → f i = g i) → firstE n f = firstE n g
  | 0, _, _, _ => rfl
  | n + 1, f, g, h => by
    simp only [firstE]
    rw [h 0 (by omega), firstE_ext n (fun i => f (i + 1)) (fun i => g (i + 1)) (fun i hi => h (i + 1) (by omega))]
theorem firstE_zero : ∀ (n : Nat) (f : Nat → Int), firstE n f = 0 ↔ ∀ i, i < n → f i = 0
  | 0, _ => by simp [firstE]
  | n + 1, f => by
    simp only [firstE]
    constructor
    · intro h i hi
      split at h
      · rename_i h0
        cases i with
        | zero => exact h0
        | succ i => exact (firstE_zero n _).1 h i (by omega)
      · rename_i h0; exact absurd h h0
    · intro h
      rw [if_pos (h 0 (by omega))]
      exact (firstE_zero n _).2 fun i hi => h (i + 1) (by omega)
/-- so many of them are none: the next one is the first, or none of one more -/
theorem firstE_at : ∀ (n k : Nat) (f : Nat → Int), k < n → (∀ i, i < k → f i = 0) → f k ≠ 0 → firstE n f = f k
  | 0, _, _, h, _, _ => absurd h (by omega)
  | n + 1, 0, f, _, _, h0 => by simp only [firstE]; rw [if_neg h0]
  | n + 1, k + 1, f, h, h1, h0 => by
    simp only [firstE]
    rw [if_pos (h1 0 (by omega)), firstE_at n k (fun i => f (i + 1)) (by omega) (fun i hi => h1 (i + 1) (by omega)) h0]
theorem firstE_append (n m : Nat) (f : Nat → Int) (h : ∀ i, i < n → f i = 0) : firstE (n + m) f = firstE m (fun i => f (n + i)) := by
  induction n generalizing f with
  | zero => simp
  | succ n ih =>
    have e : n + 1 + m = (n + m) + 1 := by omega
    rw [e, firstE, if_pos (h 0 (by omega)), ih _ (fun i hi => h (i + 1) (by omega))]
    refine firstE_ext _ _ _ fun i _ => ?_
    show f (n + i + 1) = _
    congr 1; omega
/-- has one of them the name -/
def hasN {α : Type} (nm : α → ByteArray) (l : List α) (s : ByteArray) : Bool := l.any fun x => decide (nm x = s)
def kindB (k : Int) : Bool := decide (0 ≤ k) && decide (k ≤ 4)
def mayB (k t : Int) : Bool := if t = 1 then decide (k ≠ 4) else if t = 2 then decide (k ≠ 2) && decide (k ≠ 3) else false
def actB (a : Int) : Bool := a == 0 || a == 1 || a == 2
def regB (c : C4) : Bool := c.k == 0 && c.t == 1
def bindB (n : Nat) (col : Int) : Bool := decide (0 < col) && decide (col < (n : Int))
def colOf (l : List C4) (col : Int) : C4 := l.getD col.toNat ⟨⟨#[]⟩, 0, 0, false⟩
def colErr (ahead : List C4) (c : C4) : Int :=
  if nameZ c.nm = false ∨ kindB c.k = false then 1
  else if hasN C4.nm ahead c.nm = true then 5
  else if mayB c.k c.t = false then 6
  else if c.z = true ∧ c.k ≠ 0 ∧ c.k ≠ 1 then 1 else 0
def keyErr (c : C4) : Int := if regB c = false ∨ c.z = true then 6 else 0
def uniErr (cols : List C4) (l : List Int) (i : Nat) : Int :=
  if bindB cols.length (l.getD i 0) = false then 4
  else if 0 < i ∧ l.getD i 0 ≤ l.getD (i - 1) 0 then 1
  else if regB (colOf cols (l.getD i 0)) = false then 6 else 0
def f30 : F3 := ⟨0, 0, 0⟩
def fkErr (nt : Nat) (cols : List C4) (l : List F3) (i : Nat) : Int :=
  if bindB cols.length (l.getD i f30).a = false ∨ (l.getD i f30).b < 0 ∨ (nt : Int) ≤ (l.getD i f30).b then 4
  else if (0 < i ∧ (l.getD i f30).a ≤ (l.getD (i - 1) f30).a) ∨ actB (l.getD i f30).c = false then 1
  else if regB (colOf cols (l.getD i f30).a) = false ∨ ((colOf cols (l.getD i f30).a).z = false ∧ (l.getD i f30).c = 2) then 6 else 0
def sumErr (cols : List C4) (l : List F3) (i : Nat) : Int :=
  if bindB cols.length (l.getD i f30).a = false ∨ bindB cols.length (l.getD i f30).b = false then 4
  else if (l.getD i f30).a = (l.getD i f30).b ∨ (l.getD i f30).c < 0 ∨ 1099511627776 < (l.getD i f30).c then 1
  else if regB (colOf cols (l.getD i f30).a) = false ∨ regB (colOf cols (l.getD i f30).b) = false then 6
  else if ((l.take i).any fun x => decide (x.a = (l.getD i f30).a) && decide (x.b = (l.getD i f30).b)) = true then 5 else 0
def c40 : C4 := ⟨⟨#[]⟩, 0, 0, false⟩
def nameErr (ahead : List T6) (s : ByteArray) : Int := if nameZ s = false then 1 else if hasN T6.nm ahead s = true then 5 else 0
def sizeErr (t : T6) : Int := if t.nc = 0 ∨ 16 < t.nc ∨ 16 < t.nh ∨ 16 < t.nu ∨ 16 < t.nf ∨ 16 < t.ns then 2 else 0
/-- what is asked of a table -/
def askE (nt : Nat) (ahead : List T6) (t : T6) : Nat → Nat × (Nat → Int)
  | 0 => (1, fun _ => nameErr ahead t.nm)
  | 1 => (1, fun _ => sizeErr t)
  | 2 => (t.nc, fun i => colErr (t.cols.take i) (t.cols.getD i c40))
  | 3 => (1, fun _ => keyErr (t.cols.getD 0 c40))
  | 4 => (t.nu, fun i => uniErr t.cols t.uni i)
  | 5 => (t.nf, fun i => fkErr nt t.cols t.fks i)
  | 6 => (t.ns, fun i => sumErr t.cols t.sums i)
  | _ => (0, fun _ => 0)
def ask1 (nt : Nat) (ahead : List T6) (t : T6) (q : Nat) : Int := firstE (askE nt ahead t q).1 (askE nt ahead t q).2
def tabErr (nt : Nat) (ahead : List T6) (t : T6) : Int := firstE 7 (ask1 nt ahead t)
def t60 : T6 := ⟨⟨#[]⟩, none, 0, 0, [], none, 0, 0, [], none, 0, 0, none, 0, 0, [], none, 0, 0, []⟩
def rightE (l : List T6) : Int := if l.length = 0 ∨ 16 < l.length then 2 else firstE l.length (fun i => tabErr l.length (l.take i) (l.getD i t60))
/-- the place of the first one, and whether there is one -/
def findP {α : Type} (p : α → Bool) : List α → Option Nat
  | [] => none
  | x :: l => if p x then some 0 else (findP p l).map (· + 1)
theorem findP_some {α : Type} (p : α → Bool) : ∀ (l : List α) (k : Nat), findP p l = some k ↔ ∃ x, l[k]? = some x ∧ p x = true ∧ ∀ j y, j < k → l[j]? = some y → p y = false
  | [], k => by simp [findP]
  | x :: l, k => by
    simp only [findP]
    split
    · rename_i hx
      constructor
      · intro h
        cases h
        exact ⟨x, rfl, hx, fun j y h => absurd h (by omega)⟩
      · rintro ⟨y, hy, hp, ha⟩
        cases k with
        | zero => rfl
        | succ k => rw [ha 0 x (by omega) rfl] at hx; cases hx
    · rename_i hx
      simp only [Bool.not_eq_true] at hx
      constructor
      · intro h
        obtain ⟨k', hk, rfl⟩ := Option.map_eq_some_iff.1 h
        obtain ⟨y, hy, hp, ha⟩ := (findP_some p l k').1 hk
        refine ⟨y, hy, hp, fun j z hj hz => ?_⟩
        cases j with
        | zero => cases hz; exact hx
        | succ j => exact ha j z (by omega) hz
      · rintro ⟨y, hy, hp, ha⟩
        cases k with
        | zero => cases hy; rw [hx] at hp; cases hp
        | succ k =>
          rw [(findP_some p l k).2 ⟨y, hy, hp, fun j z hj hz => ha (j + 1) z (by omega) hz⟩]; rfl
theorem findP_none {α : Type} (p : α → Bool) : ∀ l : List α, findP p l = none ↔ ∀ x ∈ l, p x = false
  | [] => by simp [findP]
  | x :: l => by
    simp only [findP]
    split
    · rename_i hx
      constructor
      · intro h; cases h
      · intro h; rw [h x (by simp)] at hx; cases hx
    · rename_i hx
      simp only [Bool.not_eq_true] at hx
      rw [Option.map_eq_none_iff, findP_none p l]
      constructor
      · intro h y hy
        rcases List.mem_cons.1 hy with rfl | hy
        · exact hx
        · exact h y hy
      · exact fun h y hy => h y (List.mem_cons_of_mem _ hy)
theorem findP_any {α : Type} (p : α → Bool) (l : List α) : (findP p l).isSome = l.any p := by
  cases h : findP p l with
  | none =>
    have := (findP_none p l).1 h
    symm
    simpa using this
  | some k =>
    obtain ⟨x, hx, hp, _⟩ := (findP_some p l k).1 h
    symm
    simp only [Option.isSome_some, List.any_eq_true]
    exact ⟨x, List.mem_of_getElem? hx, hp⟩
def placeE (o : Option Nat) : Int := match o with | none => -1 | some k => (k : Int)
def at0 (o : Option Nat) : Int := match o with | none => 0 | some k => (k : Int)
def tableP (l : List T6) (s : ByteArray) : Option Nat := findP (fun t => decide (t.nm = s)) l
def columnP (l : List C4) (s : ByteArray) : Option Nat := findP (fun t => decide (t.nm = s)) l
def foreignP (l : List F3) (col : Int) : Option Nat := findP (fun f => decide (f.a = col)) l
def f3At (l : List F3) (o : Option Nat) : F3 := match o with | none => f30 | some k => l.getD k f30
/-- the keys that point to a table -/
def kidsRow (i : Nat) (table : Int) (j : Nat) : List F3 → List (Int × Int)
  | [] => []
  | f :: l => if f.b = table then ((i : Int), (j : Int)) :: kidsRow i table (j + 1) l else kidsRow i table (j + 1) l
def kidsAt (table : Int) (i : Nat) : List T6 → List (Int × Int)
  | [] => []
  | t :: l => kidsRow i table 0 t.fks ++ kidsAt table (i + 1) l
def kidsL (l : List T6) (table : Int) : List (Int × Int) := kidsAt table 0 l
def sizeT (t : T6) : Nat := t.nc + t.nu + t.nh + t.nf + t.ns
def sumT (l : List T6) : Nat := (l.map sizeT).sum
def fewB (l : List T6) : Bool := decide (l.length ≤ 20) && decide (sumT l ≤ 400)
end Go.Proofs.YtfljhnalmiibeaaGreat

