/- Layer 10: text.Right, text.Order, text.New. -/
import Derived.Test.YtlgpijdemfccaaaMbTxtOrd
import Derived.Test.YtlgpijdemfccaaaMbTxtWhole
import Derived.Test.YtlgpijdemfccaaaMbTxtEq
import Derived.Test.YtlgpijdemfccaaaMbJoin
namespace Go.Proofs.Ytlgpijdemfccaaa
set_option maxRecDepth 100000
open Go.RowKit

abbrev zeroT : V3 := ⟨0, 0, ⟨#[]⟩⟩
/-- why a text may not be -/
def rightT10 (k : Int) (v : V3) (l : List P11) : Int := if k = 4 then (if v = zeroT ∧ WholeT l then (if 2000 < l.length then 2 else if l = ordT l then 0 else 3) else 1) else 6
def orderT (l : List P11) : List P11 := if 2000 < l.length then [] else if WholeT l then ordT l else []
theorem rightT10_ok {k : Int} {v : V3} {l : List P11} : rightT10 k v l = 0 ↔ k = 4 ∧ v = zeroT ∧ WholeT l ∧ l.length ≤ 2000 ∧ ordT l = l := by
  unfold rightT10
  constructor
  · intro h
    split at h
    · rename_i h1
      split at h
      · rename_i h2
        split at h
        · cases h
        · rename_i h3
          split at h
          · rename_i h4; exact ⟨h1, h2.1, h2.2, by omega, h4.symm⟩
          · cases h
      · cases h
    · cases h
  · rintro ⟨h1, h2, h3, h4, h5⟩
    rw [if_pos h1, if_pos ⟨h2, h3⟩, if_neg (by omega), if_pos h5.symm]

theorem rightT10_3 {v : V3} {l : List P11} (h1 : v = zeroT) (h2 : WholeT l) (h3 : ¬ 2000 < l.length) : rightT10 4 v l = if l = ordT l then 0 else 3 := by
  rw [rightT10, if_pos rfl, if_pos ⟨h1, h2⟩, if_neg h3]

set_option maxHeartbeats 6400000 in
theorem rightT_any (k : Int) (v : V3) (A : Option Addr) (n c : Nat) (l : List P11) (w : World) (h : RdP w A n c l) (hn : n ≤ 4294967000) :
    Calls Try.prog 8 #[cellV k v (.slice A n c)] w fun e w' => e = .returned (.int .i64 (rightT10 k v l)) ∧ Below w.heap.size w w' := by
  obtain ⟨w1, hw1⟩ : ∃ w1, w1 = w.alloc (cellRow k v (.slice A n c)) := ⟨_, rfl⟩
  have hb1 : Below w.heap.size w w1 := by rw [hw1]; exact below_new (Below.refl _ _) _
  have hnew : w1.heap[w.heap.size]? = some (cellRow k v (.slice A n c)) := by rw [hw1]; exact heap_alloc_new w _
  obtain ⟨c0, c1, c2, c3, c4⟩ := cell_row5 hnew
  have HRD := Lib.hid (h.below hb1)
  have HL := Lib.hid h.len
  have hle := h.le
  have HB1 := Lib.hid hb1; have HNEW := Lib.hid hnew; have HN := Lib.hid hn
  obtain ⟨F, hF⟩ : ∃ F, Hid (rightT10 k v l = F) := ⟨_, rfl⟩
  rw [hF.out]
  replace hw1 := Lib.hid hw1
  clear h hb1 hnew hn
  by_cases hk : k = 4
  rotate_left
  · have hF2 : Hid (6 = F) := by show _ = _; rw [← hF.out, rightT10, if_neg hk]
    have e1 : (k == 4) = false := by simpa using hk
    clear hk
    go_enter Try.func8, Try.ntmps8
    go_upto_region 1 with fail
    rw [show w.alloc (cellRow k v (.slice A n c)) = w1 from hw1.out.symm]
    clear hw1
    go_wp2_with fail
    go_ret
    exact ⟨ret_int hF2.out, HB1.out⟩
  obtain rfl := hk
  obtain ⟨q, hq⟩ : ∃ q, Hid (decide (v = zeroT) = q) := ⟨_, rfl⟩
  have EQ : ∀ W, (Op.equalIn 10000 23 (.agg #[.int .i64 v.k, .int .i64 v.n, .string v.s]) (.agg #[.int .i64 0, .int .i64 0, .string ⟨#[]⟩])).run Try.prog W = .ok q W := fun W => by rw [← hq.out]; exact run_equalIn_valF 9998 v zeroT W
  cases q with
  | false =>
    have hF2 : Hid (1 = F) := by
      show _ = _
      rw [← hF.out, rightT10, if_pos rfl, if_neg (fun e => of_decide_eq_false hq.out e.1)]
    go_enter Try.func8, Try.ntmps8
    go_upto_region 1 with fail
    rw [show w.alloc (cellRow 4 v (.slice A n c)) = w1 from hw1.out.symm]
    clear hw1
    go_wp2_with fail
    go_ret
    exact ⟨ret_int hF2.out, HB1.out⟩
  | true =>
    have hv0 : Hid (v = zeroT) := by show v = zeroT; exact of_decide_eq_true hq.out
    obtain ⟨r, hr, WH⟩ : ∃ r, Hid (decide (WholeT l) = r) ∧ Hid (Calls Try.prog 22 #[.slice A n c] w1 fun e w' => e = .returned (.bool r) ∧ Below w1.heap.size w1 w') := ⟨_, rfl, whole_any A n c l w1 HRD.out HN.out⟩
    go_enter Try.func8, Try.ntmps8
    go_upto_region 1 with fail
    rw [show w.alloc (cellRow 4 v (.slice A n c)) = w1 from hw1.out.symm]
    clear hw1
    go_wp2_with fail
    refine WH.out.mono ?_
    rintro e w2 ⟨rfl, b2⟩
    have HB2 := Lib.hid (below_then HB1.out b2)
    have HRD2 := Lib.hid (HRD.out.below b2)
    have HN2 := Lib.hid (row_below HNEW.out b2)
    obtain ⟨d0, d1, d2, d3, d4⟩ := cell_row5 HN2.out
    clear WH b2 c0 c1 c2 c3 c4 EQ HRD HNEW
    cases r with
    | false =>
      have hF2 : Hid (1 = F) := by
        show _ = _
        rw [← hF.out, rightT10, if_pos rfl, if_neg (fun e => of_decide_eq_false hr.out e.2)]
      go_wp2_with fail
      go_ret
      exact ⟨ret_int hF2.out, HB2.out⟩
    | true =>
      have hw : Hid (WholeT l) := by show WholeT l; exact of_decide_eq_true hr.out
      by_cases h2 : (2000 : Int) < (n : Int)
      · have h2n : 2000 < n := by omega
        have hF2 : Hid (2 = F) := by
          show _ = _
          rw [← hF.out, rightT10, if_pos rfl, if_pos ⟨hv0.out, hw.out⟩, if_pos (by rw [HL.out]; exact h2n)]
        go_wp2_with fail
        go_ret
        exact ⟨ret_int hF2.out, HB2.out⟩
      · have h2n : ¬ 2000 < n := by omega
        have hd1 : decide ((2000 : Int) < (n : Int)) = false := decide_eq_false h2
        have hd2 : decide (2000 < n) = false := decide_eq_false h2n
        obtain ⟨O, hO⟩ : ∃ O, Hid (ordT l = O) := ⟨_, rfl⟩
        have ORD : Hid (∀ W, Below w2.heap.size w2 W → Calls Try.prog 24 #[.slice A n c] W fun e w' => ∃ A' c', e = .returned (.slice A' n c') ∧ RdP w' A' n c' O ∧ Below W.heap.size W w') := fun W hW => by
          rw [← hO.out]; exact ordered_any A n c l W (HRD2.out.below hW) HN.out hw.out
        obtain ⟨r2, hr2⟩ : ∃ r2, Hid (decide (l = O) = r2) := ⟨_, rfl⟩
        have EQL : Hid (∀ W A' c', RdP W A n c l → RdP W A' n c' O → Calls Try.prog 23 #[.slice A n c, .slice A' n c'] W fun e w' => e = .returned (.bool r2) ∧ Below W.heap.size W w') := fun W A' c' h1 h2 => by
          rw [← hr2.out]; exact equalT_any A A' n n c c' l O W h1 h2
        have K : Hid (∀ W, Below w2.heap.size w2 W → W.cell? ⟨w.heap.size, 4, none⟩ = some (.slice A n c)) := fun W hW => (cell_row5 (row_below HN2.out hW)).2.2.2.2
        have hF2 : Hid ((if r2 = true then 0 else 3) = F) := by
          show _ = _
          rw [← hF.out, rightT10_3 hv0.out hw.out (by rw [HL.out]; exact h2n), hO.out, ← hr2.out]
          by_cases he : l = O <;> simp [he]
        clear hw hO hr2 hr
        go_wp2_with fail
        go_region_held3 (fun W => Below w2.heap.size w2 W ∧ W.cell? ⟨w.heap.size, 4, none⟩ = some (.slice A n c))
          (first
            | (refine ⟨?_, K.out _ ?_⟩ <;> (go_split_ands; (first | assumption | exact (Below.refl _ _).drew | exact below_then (by assumption) bo | exact below_then (by assumption) bq))))
          (first
            | (go_at_call 24; (try go_split_ands); refine (ORD.out _ (by assumption)).mono ?_; rintro e wx ⟨A', c', rfl, hrO, bo⟩; have hbo := below_then (by assumption : Below w2.heap.size w2 _) bo)
            | (go_at_call 23; refine (EQL.out _ _ _ (HRD2.out.below hbo) hrO).mono ?_; rintro e wy ⟨rfl, bq⟩))
        all_goals
          have HB4 := Lib.hid (below_then HB2.out (below_then hbo bq))
          clear K ORD EQL hrO bo bq hbo
          cases r2 with
          | true =>
            have hF3 : Hid (0 = F) := hF2.out
            go_wp2_with fail
            go_ret
            exact ⟨ret_int hF3.out, HB4.out⟩
          | false =>
            have hF3 : Hid (3 = F) := hF2.out
            go_wp2_with fail
            go_ret
            exact ⟨ret_int hF3.out, HB4.out⟩

set_option maxHeartbeats 3200000 in
theorem orderT_any (A : Option Addr) (n c : Nat) (l : List P11) (w : World) (h : RdP w A n c l) (hn : n ≤ 4294967000) :
    Calls Try.prog 13 #[.slice A n c] w fun e w' => ∃ A' c', e = .returned (.slice A' (orderT l).length c') ∧ RdP w' A' (orderT l).length c' (orderT l) ∧ Below w.heap.size w w' := by
  have hle := h.le
  have HL := Lib.hid h.len; have HRD := Lib.hid h; have HN := Lib.hid hn
  obtain ⟨O, hO⟩ : ∃ O, Hid (orderT l = O) := ⟨_, rfl⟩
  rw [hO.out]
  clear h hn
  by_cases h2 : (2000 : Int) < (n : Int)
  · have h2n : 2000 < n := by omega
    have hO2 : Hid (O = []) := by show _ = _; rw [← hO.out, orderT, if_pos (by rw [HL.out]; exact h2n)]
    go_enter Try.func13, Try.ntmps13
    go_wp2_with fail
    go_ret
    rw [hO2.out]
    exact ⟨none, 0, rfl, RdG.nil_ _, Below.refl _ _⟩
  · have h2n : ¬ 2000 < n := by omega
    have hd1 : decide ((2000 : Int) < (n : Int)) = false := decide_eq_false h2
    have hd2 : decide (2000 < n) = false := decide_eq_false h2n
    obtain ⟨r, hr, WH⟩ : ∃ r, Hid (decide (WholeT l) = r) ∧ Hid (Calls Try.prog 22 #[.slice A n c] w fun e w' => e = .returned (.bool r) ∧ Below w.heap.size w w') := ⟨_, rfl, whole_any A n c l w HRD.out HN.out⟩
    go_enter Try.func13, Try.ntmps13
    go_wp2_with fail
    refine WH.out.mono ?_
    rintro e w2 ⟨rfl, b2⟩
    have HB2 := Lib.hid b2
    clear WH b2
    cases r with
    | false =>
      have hO2 : Hid (O = []) := by show _ = _; rw [← hO.out, orderT, if_neg (by rw [HL.out]; exact h2n), if_neg (of_decide_eq_false hr.out)]
      go_wp2_with fail
      go_ret
      rw [hO2.out]
      exact ⟨none, 0, rfl, RdG.nil_ _, HB2.out⟩
    | true =>
      have hw : Hid (WholeT l) := by show WholeT l; exact of_decide_eq_true hr.out
      have hO2 : Hid (O = ordT l) := by show _ = _; rw [← hO.out, orderT, if_neg (by rw [HL.out]; exact h2n), if_pos hw.out]
      have hOl : Hid (O.length = n) := by show _ = _; rw [hO2.out, ordT_len hw.out, HL.out]
      have ORD : Hid (Calls Try.prog 24 #[.slice A n c] w2 fun e w' => ∃ A' c', e = .returned (.slice A' n c') ∧ RdP w' A' n c' O ∧ Below w2.heap.size w2 w') := by
        rw [hO2.out]; exact ordered_any A n c l w2 (HRD.out.below HB2.out) HN.out hw.out
      clear hr hw hO2
      go_wp2_with fail
      refine ORD.out.mono ?_
      rintro e w3 ⟨A', c', rfl, hrO, b3⟩
      have HR3 := Lib.hid hrO; have HB3 := Lib.hid (below_then HB2.out b3)
      clear ORD hrO b3
      go_wp2_with fail
      go_ret
      rw [hOl.out]
      exact ⟨A', c', rfl, HR3.out, HB3.out⟩

theorem newT_any (w : World) : Calls Try.prog 16 #[] w fun e w' => e = .returned (cellV 4 zeroT (.slice none 0 0)) ∧ Below w.heap.size w w' := by
  go_enter Try.func16, Try.ntmps16
  go_wp2
  refine bodyPost_ret (v := cellV 4 zeroT (.slice none 0 0)) (results_cell_row rfl _ _ w.heap.size 26 _ (0, 0) _ rfl (heap_at (by simp)) Try.underlying26 rfl (by kernel_rfl)) rfl ⟨rfl, below_new (Below.refl _ _) _⟩
end Go.Proofs.Ytlgpijdemfccaaa

