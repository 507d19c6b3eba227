/- Several texts laid together: MulRight, MulRightG, Tail, MulRight2. -/
import Derived.Test.YtieaobeidlhefaaMbRef
import Derived.WalkKit
import Derived.Deep.RegionHeld3
namespace Go.Proofs.Ytieaobeidlhefaa
set_option maxRecDepth 100000
open Go.RowKit Srt

set_option maxHeartbeats 800000 in
theorem right_free (k n : Int) (s : ByteArray) (w : World) :
    Calls Try.prog 78 #[.agg #[.int .i64 k, .int .i64 n, .string s]] w fun e w' => e = .returned (.bool (rightZ k n s.size)) ∧ Below w.heap.size w w' := by
  go_enter Try.func78, Try.ntmps78
  go_wp2
  all_goals go_ret
  all_goals refine ⟨?_, by first | exact (Below.refl _ _).alloc (Nat.le_refl _) _ | exact below_drewN ((Below.refl _ _).alloc (Nat.le_refl _) _) _⟩
  all_goals try simp only [iem]
  all_goals rcases Decidable.em (-1099511627776 ≤ n) with hlo | hlo <;> rcases Decidable.em (n ≤ 1099511627776) with hhi | hhi
  all_goals
    by_cases hz : s = ByteArray.empty
    · subst hz
      simp_all [rightZ]
      try omega
    · have hz1 : (s.size == 0) = false := by simpa using fun h => hz (size_zero h)
      have hz4 : ¬ s.toList = [] := fun h => hz (size_zero (by have := iem s; rw [h] at this; simpa using this.symm))
      have hz3 : ¬ s.size = 0 := fun h => hz (size_zero h)
      simp_all [rightZ]
      try omega

set_option maxHeartbeats 800000 in
theorem refRight_free (k n : Int) (s : ByteArray) (w : World) :
    Calls Try.prog 24 #[.agg #[.int .i64 k, .int .i64 n, .string s]] w fun e w' => e = .returned (.bool (rightZ k n s.size)) ∧ Below w.heap.size w w' := by
  go_enter Try.func24, Try.ntmps24
  go_wp2
  all_goals go_ret
  all_goals refine ⟨?_, by first | exact (Below.refl _ _).alloc (Nat.le_refl _) _ | exact below_drewN ((Below.refl _ _).alloc (Nat.le_refl _) _) _⟩
  all_goals try simp only [iem]
  all_goals rcases Decidable.em (-1099511627776 ≤ n) with hlo | hlo <;> rcases Decidable.em (n ≤ 1099511627776) with hhi | hhi
  all_goals
    by_cases hz : s = ByteArray.empty
    · subst hz
      simp_all [rightZ]
      try omega
    · have hz1 : (s.size == 0) = false := by simpa using fun h => hz (size_zero h)
      have hz4 : ¬ s.toList = [] := fun h => hz (size_zero (by have := iem s; rw [h] at this; simpa using this.symm))
      have hz3 : ¬ s.size = 0 := fun h => hz (size_zero h)
      simp_all [rightZ]
      try omega

theorem right_val (v : V3) (w : World) :
    Calls Try.prog 78 #[.agg #[.int .i64 v.k, .int .i64 v.n, .string v.s]] w fun e w' => e = .returned (.bool v.right) ∧ Below w.heap.size w w' :=
  right_free v.k v.n v.s w
theorem refRight_val (v : V3) (w : World) :
    Calls Try.prog 24 #[.agg #[.int .i64 v.k, .int .i64 v.n, .string v.s]] w fun e w' => e = .returned (.bool v.right) ∧ Below w.heap.size w w' :=
  refRight_free v.k v.n v.s w

set_option maxHeartbeats 1600000 in
theorem rightPart_any (p : P11) (w : World) :
    Calls Try.prog 51 #[p.agg] w fun e w' => e = .returned (.bool (okP p)) ∧ Below w.heap.size w w' := by
  have h0 : (w.alloc (partCells p)).heap[w.heap.size]? = some (partCells p) := heap_alloc_new _ _
  obtain ⟨x0, x1, x2, x3, x4, x5, x6, x7, x8, x9, x10⟩ := part_row h0
  have B := Lib.hid (below_new (Below.refl w.heap.size w) (partCells p))
  have EQ : ∀ W, (Op.equalIn 10000 32 (.agg #[.int .i64 p.v.k, .int .i64 p.v.n, .string p.v.s, .int .i64 p.d.d, .int .i64 p.d.s, .int .i64 p.i, .int .i64 p.t, .int .i64 p.a.d, .int .i64 p.a.s, .int .i64 p.j, .bool p.g])
      (.agg #[.int .i64 p.v.k, .int .i64 p.v.n, .string p.v.s, .int .i64 p.d.d, .int .i64 p.d.s, .int .i64 0, .int .i64 0, .int .i64 0, .int .i64 0, .int .i64 0, .bool false])).run Try.prog W = .ok (decide (p = part0 p.v p.d)) W := fun W => run_equalIn_part p (part0 p.v p.d) W
  obtain ⟨r, hr, C⟩ : ∃ r, Hid (p.v.right = r) ∧ Hid (Calls Try.prog 78 #[.agg #[.int .i64 p.v.k, .int .i64 p.v.n, .string p.v.s]] (w.alloc (partCells p)) fun e w' => e = .returned (.bool r) ∧ Below (w.alloc (partCells p)).heap.size (w.alloc (partCells p)) w') := ⟨_, rfl, right_val p.v _⟩
  have K := Lib.hid (fun W (b : Below (w.alloc (partCells p)).heap.size (w.alloc (partCells p)) W) => part_row (row_below h0 b))
  clear h0
  go_enter Try.func51, Try.ntmps51
  go_wp2_with fail
  all_goals first
    | (refine C.out.mono ?_
       rintro e w3 ⟨rfl, b3⟩
       obtain ⟨x0, x1, x2, x3, x4, x5, x6, x7, x8, x9, x10⟩ := K.out w3 b3
       have B3 := Lib.hid (below_then B.out b3)
       cases r
       all_goals go_wp2_with fail
       all_goals go_ret
       all_goals exact ⟨ret_bool (by simp [okP, hr.out, *]), B3.out⟩)
    | (go_ret
       exact ⟨ret_bool (by simp [okP, *] <;> (intros; omega)), B.out⟩)

theorem okP_bounds {p : P11} : okP p = true ↔ (((1 ≤ p.d.d ∧ p.d.d ≤ 64) ∧ (1 ≤ p.d.s ∧ p.d.s ≤ 1048576)) ∧ p.v.right = true) ∧ p = part0 p.v p.d := by
  simp [okP, and_assoc]
theorem okP_not {p : P11} (h : ¬ ((((1 ≤ p.d.d ∧ p.d.d ≤ 64) ∧ (1 ≤ p.d.s ∧ p.d.s ≤ 1048576)) ∧ p.v.right = true) ∧ p = part0 p.v p.d)) : okP p = false := by
  cases e : okP p
  · rfl
  · exact absurd (okP_bounds.1 e) h
theorem rightC_no {k : Int} {v : V3} {l : List P11} (h : ¬ RightL l) : false = rightC k v l := by
  simp [rightC, h]

set_option maxHeartbeats 6400000 in
theorem refRight7_any (ka : Int) (va : V3) (A : Option Addr) (n c : Nat) (l : List P11) (w : World) (h : RdP w A n c l) :
    Calls Try.prog 18 #[cellV ka va (.slice A n c)] w fun e w' => e = .returned (.bool (rightC ka va l)) ∧ Below w.heap.size w w' := by
  obtain ⟨w1, hw1⟩ : ∃ w1, w1 = w.alloc (cellRow ka va (.slice A n c)) := ⟨_, rfl⟩
  have hb1 : Below w.heap.size w w1 := by rw [hw1]; exact below_new (Below.refl _ _) _
  have h4 : w1.heap[w.heap.size]? = some (cellRow ka va (.slice A n c)) := by rw [hw1]; exact heap_alloc_new _ _
  have hs1 : w.heap.size < w1.heap.size := by rw [hw1]; simp
  have HRD := Lib.hid (h.below hb1)
  have HL := Lib.hid h.len
  have hle := h.le
  have HB := Lib.hid hb1
  have H4 := Lib.hid h4
  have HS1 := Lib.hid hs1
  have AB := Lib.hid (fun a b => above_any a b)
  clear h hb1 h4 hs1
  obtain ⟨F, hF⟩ : ∃ F, Hid (F = rightC ka va l) := ⟨_, rfl⟩
  rw [← hF.out]
  go_enter Try.func18, Try.ntmps18
  go_wp2_with fail
  rw [← hw1]
  clear hw1
  go_loopw [3] (fun i wr => ∃ k : Nat, k ≤ n ∧ i = .int .i64 k ∧ Hid (RightL (l.take k)) ∧ Hid (Below w1.heap.size w1 wr)) (fun i _ => n - (intOf i).toNat)
  case atStart => exact ⟨0, Nat.zero_le _, rfl, by show RightL _; rw [List.take_zero]; exact ⟨by simp, List.Pairwise.nil⟩, Below.refl _ _⟩
  case round =>
    obtain ⟨k, hk, rfl, hR, hbel⟩ := hrel
    by_cases hlt : k < n
    · obtain ⟨b, o, x, rfl, hb, hx, hld⟩ := HRD.out.part hlt
      obtain ⟨c0, c1, c2, c3, c4, c5, c6, c7, c8, c9, c10⟩ := hld wr hbel.out
      obtain ⟨_, _, _, _, q4⟩ := cell_row5 ((hbel.out.block w.heap.size HS1.out).trans H4.out)
      obtain ⟨w2, hw2⟩ : ∃ w2, w2 = wr.alloc (partCells x) := ⟨_, rfl⟩
      have HW2 := Lib.hid hw2
      have B2 : Below wr.heap.size wr w2 := by rw [hw2]; exact below_new (Below.refl _ _) _
      have BB2 := Lib.hid (below_then hbel.out B2)
      have hnew : w2.heap[wr.heap.size]? = some (partCells x) := by rw [hw2]; exact heap_alloc_new _ _
      have HX := Lib.hid hx
      have HLD := Lib.hid hld
      have K : Hid (∀ W, Below w2.heap.size w2 W → W.heap[wr.heap.size]? = some (partCells x) ∧ W.heap[w.heap.size]? = some (cellRow ka va (.slice (some ⟨b, o, none⟩) n c)) ∧ Below w1.heap.size w1 W) := by
        intro W hW
        have h1 := below_then BB2.out hW
        exact ⟨row_below hnew hW, (h1.block w.heap.size HS1.out).trans H4.out, h1⟩
      have EQ : ∀ W, (Op.equalIn 10000 32 (.agg #[.int .i64 x.v.k, .int .i64 x.v.n, .string x.v.s, .int .i64 x.d.d, .int .i64 x.d.s, .int .i64 x.i, .int .i64 x.t, .int .i64 x.a.d, .int .i64 x.a.s, .int .i64 x.j, .bool x.g])
          (.agg #[.int .i64 x.v.k, .int .i64 x.v.n, .string x.v.s, .int .i64 x.d.d, .int .i64 x.d.s, .int .i64 0, .int .i64 0, .int .i64 0, .int .i64 0, .int .i64 0, .bool false])).run Try.prog W = .ok (decide (x = part0 x.v x.d)) W := fun W => run_equalIn_part x (part0 x.v x.d) W
      have HBad : Hid (¬ ((((1 ≤ x.d.d ∧ x.d.d ≤ 64) ∧ (1 ≤ x.d.s ∧ x.d.s ≤ 1048576)) ∧ x.v.right = true) ∧ x = part0 x.v x.d) → false = F) := fun h => by
        rw [hF.out]; exact rightC_no (right_bad HX.out (okP_not h))
      obtain ⟨r, hr, C⟩ : ∃ r, Hid (x.v.right = r) ∧ Hid (Calls Try.prog 24 #[.agg #[.int .i64 x.v.k, .int .i64 x.v.n, .string x.v.s]] w2 fun e w' => e = .returned (.bool r) ∧ Below w2.heap.size w2 w') := ⟨_, rfl, refRight_val x.v _⟩
      clear hx hld hnew hw2 B2
      obtain ⟨x0, x1, x2, x3, x4, x5, x6, x7, x8, x9, x10⟩ := part_row (K.out w2 (Below.refl _ _)).1
      by_cases hz : x = part0 x.v x.d
      · have HZ := Lib.hid hz
        have hd : decide (x = part0 x.v x.d) = true := decide_eq_true hz
        rw [hd] at EQ
        clear hd hz
        go_upto_region 5 with fail
        rw [← HW2.out]
        go_wp2_with fail
        refine C.out.mono ?_
        rintro e w3 ⟨rfl, b3⟩
        have BB3 := Lib.hid (below_then BB2.out b3)
        have K3 := Lib.hid (K.out w3 b3)
        clear x0 x1 x2 x3 x4 x5 x6 x7 x8 x9 x10 c0 c1 c2 c3 c4 c5 c6 c7 c8 c9 c10 q4 b3
        cases r with
        | false =>
          have HF : Hid (false = F) := HBad.out (fun h => by have := h.1.2; rw [hr.out] at this; cases this)
          go_wp2_with fail
          go_ret
          exact ⟨ret_bool HF.out, below_then HB.out BB3.out⟩
        | true =>
          obtain ⟨x0, x1, x2, x3, x4, x5, x6, x7, x8, x9, x10⟩ := part_row K3.out.1
          by_cases hbd : (1 ≤ x.d.d ∧ x.d.d ≤ 64) ∧ (1 ≤ x.d.s ∧ x.d.s ≤ 1048576)
          · have HO : Hid (okP x = true) := okP_bounds.2 ⟨⟨hbd, hr.out⟩, HZ.out⟩
            obtain ⟨⟨g1, g2⟩, g3, g4⟩ := hbd
            by_cases hk0 : k = 0
            · have HR2 : Hid (RightL (l.take (k + 1))) := right_step HX.out hR.out HO.out (fun y h => by omega)
              have g5 : ¬ ((0 : Int) < (k : Int)) := by omega
              have g6 : decide ((0 : Int) < (k : Int)) = false := decide_eq_false g5
              go_wp2_with fail
              go_quiet (fail)
              go_wp2_with fail
              exact ⟨⟨k + 1, by omega, by go_num, HR2, below_drewN BB3.out _⟩, by simp [intOf]; omega⟩
            · obtain ⟨b', o', y, he, hb', hy, hldy⟩ := HRD.out.part (show k - 1 < n by omega)
              injection he with he
              injection he with e1 e2
              subst e1; subst e2
              have HY := Lib.hid hy
              have lw : w.heap.size < w3.heap.size := Nat.lt_of_lt_of_le HS1.out BB3.out.size
              have lr : wr.heap.size < w3.heap.size := lt_of_row K3.out.1
              have lb : b < w3.heap.size := by have := BB3.out.size; omega
              obtain ⟨_, _, _, y3, y4, _⟩ := hldy w3 BB3.out
              obtain ⟨_, _, _, _, q4⟩ := cell_row5 K3.out.2.1
              have K2 : Hid (∀ W, Below w3.heap.size w3 W → Below w3.heap.size w3 W ∧ W.cell? ⟨wr.heap.size, 3, none⟩ = some (.int .i64 x.d.d) ∧ W.cell? ⟨wr.heap.size, 4, none⟩ = some (.int .i64 x.d.s) ∧ W.cell? ⟨w.heap.size, 4, none⟩ = some (.slice (some ⟨b, o, none⟩) n c) ∧ W.cell? ⟨b, o + (k - 1) * 11 + 3, none⟩ = some (.int .i64 y.d.d) ∧ W.cell? ⟨b, o + (k - 1) * 11 + 4, none⟩ = some (.int .i64 y.d.s)) := by
                intro W hW
                exact ⟨hW, (hW.cell (p := ⟨wr.heap.size, _, none⟩) lr).trans x3, (hW.cell (p := ⟨wr.heap.size, _, none⟩) lr).trans x4, (hW.cell (p := ⟨w.heap.size, _, none⟩) lw).trans q4, (hW.cell (p := ⟨b, _, none⟩) lb).trans y3, (hW.cell (p := ⟨b, _, none⟩) lb).trans y4⟩
              have K0 := K2.out w3 (Below.refl _ _)
              obtain ⟨r3, hr3, C3⟩ : ∃ r, Hid (aboveD x.d y.d = r) ∧ Hid (∀ W, Calls Try.prog 53 #[.agg #[.int .i64 x.d.d, .int .i64 x.d.s], .agg #[.int .i64 y.d.d, .int .i64 y.d.s]] W fun e w' => e = .returned (.bool r) ∧ Below W.heap.size W w') := ⟨_, rfl, fun W => above_any x.d y.d W⟩
              clear y3 y4 q4 hy hldy lw lr lb hb'
              have HKN : Hid (k - 1 + 1 = k) := by show _ = _; omega
              have z0 : (0 : Int) < (k : Int) := by omega
              have z5 : decide ((0 : Int) < (k : Int)) = true := decide_eq_true z0
              have z6 : 0 < k := by omega
              have z7 : decide (0 < k) = true := decide_eq_true z6
              have z8 : (1 : Int) ≤ (k : Int) := by omega
              have z9 : 1 ≤ k := by omega
              have z1 : (0 : Int) ≤ (k : Int) - 1 := by omega
              have z2 : (k : Int) - 1 < (n : Int) := by omega
              have z3 : ((k : Int) - 1).toNat = k - 1 := by omega
              have z4 : IntKind.i64.wrap ((k : Int) - 1) = (k : Int) - 1 := wrap_is (by omega)
              cases r3 with
              | false =>
                have HF : Hid (false = F) := by
                  show _ = _
                  rw [hF.out]
                  exact rightC_no (right_low (k := k - 1) (by rw [HKN.out]; exact HX.out) HY.out hr3.out)
                go_wp2_with fail
                go_region_held3 (fun W => Below w3.heap.size w3 W ∧ W.cell? ⟨wr.heap.size, 3, none⟩ = some (.int .i64 x.d.d) ∧ W.cell? ⟨wr.heap.size, 4, none⟩ = some (.int .i64 x.d.s) ∧ W.cell? ⟨w.heap.size, 4, none⟩ = some (.slice (some ⟨b, o, none⟩) n c) ∧ W.cell? ⟨b, o + (k - 1) * 11 + 3, none⟩ = some (.int .i64 y.d.d) ∧ W.cell? ⟨b, o + (k - 1) * 11 + 4, none⟩ = some (.int .i64 y.d.s))
                  (first
                    | exact K2.out _ (below_then (And.left (by with_reducible assumption)) bb)
                    | exact K2.out _ (Below.drew (Below.refl _ _)))
                  (first
                    | (go_at_call 53; refine (C3.out _).mono ?_; rintro e wx ⟨rfl, bb⟩))
                have hbx := Lib.hid (below_then BB3.out (below_then (Below.refl w3.heap.size w3).drew bb))
                clear bb K0
                clear z0 z1 z2 z3 z4 z5 z6 z7 z8 z9
                go_wp2_with fail
                go_ret
                exact ⟨ret_bool HF.out, below_then HB.out hbx.out⟩
              | true =>
                have HR2 : Hid (RightL (l.take (k + 1))) := right_step HX.out hR.out HO.out (fun z h0 hz => by
                  rw [HY.out] at hz; injection hz with hz; subst hz; exact hr3.out)
                go_wp2_with fail
                go_region_held3 (fun W => Below w3.heap.size w3 W ∧ W.cell? ⟨wr.heap.size, 3, none⟩ = some (.int .i64 x.d.d) ∧ W.cell? ⟨wr.heap.size, 4, none⟩ = some (.int .i64 x.d.s) ∧ W.cell? ⟨w.heap.size, 4, none⟩ = some (.slice (some ⟨b, o, none⟩) n c) ∧ W.cell? ⟨b, o + (k - 1) * 11 + 3, none⟩ = some (.int .i64 y.d.d) ∧ W.cell? ⟨b, o + (k - 1) * 11 + 4, none⟩ = some (.int .i64 y.d.s))
                  (first
                    | exact K2.out _ (below_then (And.left (by with_reducible assumption)) bb)
                    | exact K2.out _ (Below.drew (Below.refl _ _)))
                  (first
                    | (go_at_call 53; refine (C3.out _).mono ?_; rintro e wx ⟨rfl, bb⟩))
                have hbx := Lib.hid (below_then BB3.out (below_then (Below.refl w3.heap.size w3).drew bb))
                clear bb K0
                clear z0 z1 z2 z3 z4 z5 z6 z7 z8 z9
                go_wp2_with fail
                exact ⟨⟨k + 1, by omega, by go_num, HR2, hbx⟩, by simp [intOf]; omega⟩
          · have HF : Hid (false = F) := HBad.out (fun h => hbd h.1.1)
            go_wp2_with fail
            all_goals first
              | (exfalso; omega)
              | (go_ret; exact ⟨ret_bool HF.out, below_then HB.out BB3.out⟩)
      · have HF : Hid (false = F) := HBad.out (fun h => hz h.2)
        have hd : decide (x = part0 x.v x.d) = false := decide_eq_false hz
        rw [hd] at EQ
        clear hd hz
        go_upto_region 5 with fail
        rw [← HW2.out]
        go_wp2_with fail
        go_ret
        exact ⟨ret_bool HF.out, below_then HB.out BB2.out⟩
    · have HRL : Hid (RightL l) := by
        have h1 := hR.out
        have h2 := HL.out
        rw [List.take_of_length_le (by omega)] at h1
        exact h1
      obtain ⟨q0, q1, q2, q3, q4⟩ := cell_row5 ((hbel.out.block w.heap.size HS1.out).trans H4.out)
      have EQ : ∀ W, (Op.equalIn 10000 23 (.agg #[.int .i64 va.k, .int .i64 va.n, .string va.s]) (.agg #[.int .i64 0, .int .i64 0, .string ⟨#[]⟩])).run Try.prog W = .ok (decide (va = zeroV)) W := fun W => run_equalIn_valF 9998 va zeroV W
      by_cases h1 : ka = 1
      · obtain ⟨z, hz⟩ : ∃ z, Hid (decide (va = zeroV) = z) := ⟨_, rfl⟩
        rw [hz.out] at EQ
        have HF : Hid (z = F) := by show _ = _; rw [hF.out, ← hz.out]; simp [rightC, h1, HRL.out]
        subst h1
        cases z
        all_goals go_wp2_with fail
        all_goals go_ret
        all_goals exact ⟨ret_bool HF.out, below_then HB.out hbel.out⟩
      · have HF : Hid (false = F) := by show _ = _; rw [hF.out]; simp [rightC, h1]
        go_wp2_with fail
        all_goals go_ret
        all_goals exact ⟨ret_bool HF.out, below_then HB.out hbel.out⟩
end Go.Proofs.Ytieaobeidlhefaa

namespace Go.Proofs.Ytieaobeidlhefaa
set_option maxRecDepth 100000
open Go.RowKit Srt

set_option maxHeartbeats 800000 in
theorem right_grown (k n : Int) (s : ByteArray) (w : World) (hs : s.size ≤ 4294967296) :
    Calls Try.prog 78 #[.agg #[.int .i64 k, .int .i64 n, .string s]] w fun e w' => e = .returned (.bool (rightZ k n s.size)) ∧ Grown w w' := by
  go_enter Try.func78, Try.ntmps78
  go_wp2
  all_goals go_ret
  all_goals refine ⟨?_, by first | exact (Grown.refl _).alloc _ | exact ((Grown.refl _).alloc _).drewN _⟩
  all_goals try simp only [iem]
  all_goals rcases Decidable.em (-1099511627776 ≤ n) with hlo | hlo <;> rcases Decidable.em (n ≤ 1099511627776) with hhi | hhi
  all_goals
    by_cases hz : s = ByteArray.empty
    · subst hz
      simp_all [rightZ]
      try omega
    · have hz1 : (s.size == 0) = false := by simpa using fun h => hz (size_zero h)
      have hz4 : ¬ s.toList = [] := fun h => hz (size_zero (by have := iem s; rw [h] at this; simpa using this.symm))
      have hz3 : ¬ s.size = 0 := fun h => hz (size_zero h)
      simp_all [rightZ]
      try omega

set_option maxHeartbeats 1600000 in
theorem rightPart_grown (p : P11) (w : World) (hs : p.v.s.size ≤ 4294967296) :
    Calls Try.prog 51 #[p.agg] w fun e w' => e = .returned (.bool (okP p)) ∧ Grown w w' := by
  have h0 : (w.alloc (partCells p)).heap[w.heap.size]? = some (partCells p) := heap_alloc_new _ _
  obtain ⟨x0, x1, x2, x3, x4, x5, x6, x7, x8, x9, x10⟩ := part_row h0
  have B := Lib.hid ((Grown.refl w).alloc (partCells p))
  have EQ : ∀ W, (Op.equalIn 10000 32 (.agg #[.int .i64 p.v.k, .int .i64 p.v.n, .string p.v.s, .int .i64 p.d.d, .int .i64 p.d.s, .int .i64 p.i, .int .i64 p.t, .int .i64 p.a.d, .int .i64 p.a.s, .int .i64 p.j, .bool p.g])
      (.agg #[.int .i64 p.v.k, .int .i64 p.v.n, .string p.v.s, .int .i64 p.d.d, .int .i64 p.d.s, .int .i64 0, .int .i64 0, .int .i64 0, .int .i64 0, .int .i64 0, .bool false])).run Try.prog W = .ok (decide (p = part0 p.v p.d)) W := fun W => run_equalIn_part p (part0 p.v p.d) W
  obtain ⟨r, hr, C⟩ : ∃ r, Hid (p.v.right = r) ∧ Hid (Calls Try.prog 78 #[.agg #[.int .i64 p.v.k, .int .i64 p.v.n, .string p.v.s]] (w.alloc (partCells p)) fun e w' => e = .returned (.bool r) ∧ Grown (w.alloc (partCells p)) w') := ⟨_, rfl, right_grown p.v.k p.v.n p.v.s _ hs⟩
  have K := Lib.hid (fun W (b : Below (w.alloc (partCells p)).heap.size (w.alloc (partCells p)) W) => part_row (row_below h0 b))
  clear h0
  go_enter Try.func51, Try.ntmps51
  go_wp2_with fail
  all_goals first
    | (refine C.out.mono ?_
       rintro e w3 ⟨rfl, b3⟩
       obtain ⟨x0, x1, x2, x3, x4, x5, x6, x7, x8, x9, x10⟩ := K.out w3 b3.below
       have B3 := Lib.hid (B.out.trans b3)
       cases r
       all_goals go_wp2_with fail
       all_goals go_ret
       all_goals exact ⟨ret_bool (by simp [okP, hr.out, *]), B3.out⟩)
    | (go_ret
       exact ⟨ret_bool (by simp [okP, *] <;> (intros; omega)), B.out⟩)

theorem cmpD_above (a b : D2) : aboveD a b = !decide (0 ≤ cmpD b a) := by
  rw [← cmpD_lt b a]
  by_cases h : 0 ≤ cmpD b a <;> simp [h] <;> omega
end Go.Proofs.Ytieaobeidlhefaa

namespace Go.Proofs.Ytieaobeidlhefaa
set_option maxRecDepth 100000

/-- what an operation yields that looks at no world -/
def pureOf (a : Act) (o : Oper) : Option Value :=
  match o.op with
  | .move x => some (a.eval x)
  | .assign x => some (a.eval x)
  | .pick c x y =>
    match a.eval c with
    | .bool true => some (a.eval x)
    | .bool false => some (a.eval y)
    | _ => none
  | _ => none

/-- may these come up in this order -/
def tailOk (md : Region.Mode) (ops : Array Oper) : List Nat → Array Bool → Bool
  | [], _ => true
  | i :: is, listed => Region.free md ops listed i && (Region.ready md ops listed).contains i && tailOk md ops is (listed.setIfInBounds i true)
def tailMarks : List Nat → Array Bool → Array Bool
  | [], listed => listed
  | i :: is, listed => tailMarks is (listed.setIfInBounds i true)

/-- what they leave -/
def tailRun (ops : Array Oper) : List Nat → Act → Option Act
  | [], a => some a
  | i :: is, a =>
    match ops[i]? with
    | none => none
    | some o =>
      match Region.wanted o (yielded ops a.tmps) with
      | true =>
        match pureOf a o with
        | some v => tailRun ops is (a.put o.dst v)
        | none => none
      | false => tailRun ops is (a.put o.dst undef)

theorem pureOf_run {P : Program} {w : World} {a : Act} {o : Oper} {v : Value} (h : pureOf a o = some v) : (execOp a.eval o).run P w = .ok (.value v) w := by
  unfold pureOf at h
  split at h
  · rename_i x ho
    injection h with h; subst h
    simp [execOp, ho]
  · rename_i x ho
    injection h with h; subst h
    simp [execOp, ho]
  · rename_i c x y ho
    split at h
    · rename_i hc
      injection h with h; subst h
      simp [execOp, ho, hc, asBool]
    · rename_i hc
      injection h with h; subst h
      simp [execOp, ho, hc, asBool]
    · cases h
  · cases h

theorem wpAnyH_takes {P : Program} {md : Region.Mode} {ops : Array Oper} {Q : Exit → Act → World → Prop} {S : World → Prop} {w : World} (hs : Region.noSelect ops = true) (hQ : ∀ o v c a w, Q (.panic c) (a.put o v) w → Q (.panic c) a w) (hS : S w) :
    ∀ (is : List Nat) (fuel : Nat) (listed : Array Bool) (a a' : Act), tailOk md ops is listed = true → tailRun ops is a = some a' → wpAnyH P md ops Q S fuel (tailMarks is listed) a' w → wpAnyH P md ops Q S (fuel + is.length) listed a w
  | [], fuel, listed, a, a', _, hrun, hq => by
    simp only [tailRun, Option.some.injEq] at hrun
    subst hrun
    exact hq
  | i :: is, fuel, listed, a, a', hok, hrun, hq => by
    simp only [tailOk, Bool.and_eq_true] at hok
    obtain ⟨⟨h1, h2⟩, h3⟩ := hok
    rw [tailRun] at hrun
    rw [List.length_cons, ← Nat.add_assoc]
    split at hrun
    · cases hrun
    · rename_i o ho
      split at hrun
      · rename_i hw
        split at hrun
        · rename_i v hv
          exact wpAnyH_take ho hs h1 h2 (fun c a w => hQ o.dst v c a w) (.inl ⟨hw, fun w _ => pureOf_run hv⟩) hS (wpAnyH_takes hs hQ hS is fuel _ _ a' h3 hrun hq)
        · cases hrun
      · rename_i hw
        exact wpAnyH_take ho hs h1 h2 (fun c a w => hQ o.dst undef c a w) (.inr ⟨hw, rfl⟩) hS (wpAnyH_takes hs hQ hS is fuel _ _ a' h3 hrun hq)

def putsOf : List (Option Tmp × Value) → Act → Act
  | [], a => a
  | (d, v) :: ps, a => putsOf ps (a.put d v)

theorem wpAnyH_puts {P : Program} {md : Region.Mode} {ops : Array Oper} {Q : Exit → Act → World → Prop} {S : World → Prop} {w : World} {listed : Array Bool} {a : Act} (hs : Region.noSelect ops = true) (hQ : ∀ o v c a w, Q (.panic c) (a.put o v) w → Q (.panic c) a w) (hS : S w)
    (is : List Nat) (fuel : Nat) (ps : List (Option Tmp × Value)) (hok : tailOk md ops is listed = true) (hrun : tailRun ops is a = some (putsOf ps a)) (hq : wpAnyH P md ops Q S fuel (tailMarks is listed) (putsOf ps a) w) : wpAnyH P md ops Q S (fuel + is.length) listed a w :=
  wpAnyH_takes hs hQ hS is fuel listed a _ hok hrun hq

/-- one operation more, of which it is known what it yields -/
theorem wpAnyH_one {P : Program} {md : Region.Mode} {ops : Array Oper} {Q : Exit → Act → World → Prop} {S : World → Prop} {w : World} {listed : Array Bool} {a : Act} (hs : Region.noSelect ops = true) (hQ : ∀ o v c a w, Q (.panic c) (a.put o v) w → Q (.panic c) a w) (hS : S w)
    (i fuel : Nat) (d : Option Tmp) (v : Value) (o : Oper) (ho : ops[i]? = some o) (hd : o.dst = d) (hok : tailOk md ops [i] listed = true) (hw : Region.wanted o (yielded ops a.tmps) = true) (hv : ∀ w, S w → (execOp a.eval o).run P w = .ok (.value v) w)
    (hq : wpAnyH P md ops Q S fuel (listed.setIfInBounds i true) (a.put d v) w) : wpAnyH P md ops Q S (fuel + 1) listed a w := by
  subst hd
  simp only [tailOk, Bool.and_eq_true] at hok
  exact wpAnyH_take ho hs hok.1.1 hok.1.2 (fun c a w => hQ o.dst v c a w) (.inl ⟨hw, hv⟩) hS hq
end Go.Proofs.Ytieaobeidlhefaa

namespace Go.Proofs.Ytieaobeidlhefaa
set_option maxRecDepth 100000
open Go.RowKit Go.Sort Srt

set_option maxHeartbeats 6400000 in
theorem right7_any (ka : Int) (va : V3) (A : Option Addr) (n c : Nat) (l : List P11) (w : World) (h : RdP w A n c l) :
    Calls Try.prog 17 #[cellV ka va (.slice A n c)] w fun e w' => e = .returned (.bool (rightC ka va l)) ∧ Below w.heap.size w w' := by
  obtain ⟨w1, hw1⟩ : ∃ w1, w1 = w.alloc (cellRow ka va (.slice A n c)) := ⟨_, rfl⟩
  have hb1 : Below w.heap.size w w1 := by rw [hw1]; exact below_new (Below.refl _ _) _
  have h4 : w1.heap[w.heap.size]? = some (cellRow ka va (.slice A n c)) := by rw [hw1]; exact heap_alloc_new _ _
  have hs1 : w.heap.size < w1.heap.size := by rw [hw1]; simp
  have HRD := Lib.hid (h.below hb1)
  have HL := Lib.hid h.len
  have hle := h.le
  have HB := Lib.hid hb1
  have H4 := Lib.hid h4
  have HS1 := Lib.hid hs1
  obtain ⟨F, hF⟩ : ∃ F, Hid (F = rightC ka va l) := ⟨_, rfl⟩
  rw [← hF.out]
  have EQ : ∀ W, (Op.equalIn 10000 23 (.agg #[.int .i64 va.k, .int .i64 va.n, .string va.s]) (.agg #[.int .i64 0, .int .i64 0, .string ⟨#[]⟩])).run Try.prog W = .ok (decide (va = zeroV)) W := fun W => run_equalIn_valF 9998 va zeroV W
  obtain ⟨q0, q1, q2, q3, q4⟩ := cell_row5 h4
  clear h hb1 h4 hs1
  by_cases hk : ka = 1
  · by_cases hv : va = zeroV
    · have HK : Hid (RightL l → true = F) := fun h => by rw [hF.out]; simp [rightC, hk, hv, h]
      have HN : Hid (¬ RightL l → false = F) := fun h => by rw [hF.out]; exact rightC_no h
      have hd : decide (va = zeroV) = true := decide_eq_true hv
      rw [hd] at EQ
      clear hd hv
      subst hk
      go_enter Try.func17, Try.ntmps17
      go_upto_region 1 with fail
      rw [← hw1]
      clear hw1
      go_wp2_with fail
      clear EQ q0 q1 q2 q3 q4
      go_loopw [17] (fun i wr => ∃ k : Nat, k ≤ n ∧ i = .int .i64 k ∧ Hid (RightL (l.take k)) ∧ Hid (Below w1.heap.size w1 wr)) (fun i _ => n - (intOf i).toNat)
      case atStart => exact ⟨0, Nat.zero_le _, rfl, by show RightL _; rw [List.take_zero]; exact ⟨by simp, List.Pairwise.nil⟩, Below.refl _ _⟩
      case round =>
        obtain ⟨k, hk, rfl, hR, hbel⟩ := hrel
        by_cases hlt : k < n
        · obtain ⟨b, o, x, rfl, hb, hx, hld⟩ := HRD.out.part hlt
          obtain ⟨c0, c1, c2, c3, c4, c5, c6, c7, c8, c9, c10⟩ := hld wr hbel.out
          obtain ⟨w2, hw2⟩ : ∃ w2, w2 = wr.alloc (partCells x) := ⟨_, rfl⟩
          have HW2 := Lib.hid hw2
          have B2 : Below wr.heap.size wr w2 := by rw [hw2]; exact below_new (Below.refl _ _) _
          have BB2 := Lib.hid (below_then hbel.out B2)
          have hnew : w2.heap[wr.heap.size]? = some (partCells x) := by rw [hw2]; exact heap_alloc_new _ _
          have HX := Lib.hid hx
          obtain ⟨gp, hgp⟩ : ∃ gp, gp = wr.heap.size := ⟨_, rfl⟩
          have HGP := Lib.hid hgp
          obtain ⟨g, hg⟩ : ∃ g, g = w.heap.size := ⟨_, rfl⟩
          have HG := Lib.hid hg
          have KA : Hid (∀ W, Below w2.heap.size w2 W → (Below w2.heap.size w2 W ∧ W.cell? ⟨gp, 0, none⟩ = some (.int .i64 x.v.k) ∧ W.cell? ⟨gp, 1, none⟩ = some (.int .i64 x.v.n) ∧ W.cell? ⟨gp, 2, none⟩ = some (.string x.v.s) ∧ W.cell? ⟨gp, 3, none⟩ = some (.int .i64 x.d.d) ∧ W.cell? ⟨gp, 4, none⟩ = some (.int .i64 x.d.s) ∧ W.cell? ⟨gp, 5, none⟩ = some (.int .i64 x.i) ∧ W.cell? ⟨gp, 6, none⟩ = some (.int .i64 x.t) ∧ W.cell? ⟨gp, 7, none⟩ = some (.int .i64 x.a.d) ∧ W.cell? ⟨gp, 8, none⟩ = some (.int .i64 x.a.s) ∧ W.cell? ⟨gp, 9, none⟩ = some (.int .i64 x.j) ∧ W.cell? ⟨gp, 10, none⟩ = some (.bool x.g))) := by
            intro W hW
            obtain ⟨p0, p1, p2, p3, p4, p5, p6, p7, p8, p9, p10⟩ := part_row (row_below hnew hW)
            rw [hgp]
            exact ⟨hW, p0, p1, p2, p3, p4, p5, p6, p7, p8, p9, p10⟩
          have KB : Hid (∀ W, Below w2.heap.size w2 W → W.cell? ⟨g, 4, none⟩ = some (.slice (some ⟨b, o, none⟩) n c)) := by
            intro W hW
            have h1 := below_then BB2.out hW
            rw [hg]
            exact (cell_row5 ((h1.block w.heap.size HS1.out).trans H4.out)).2.2.2.2
          obtain ⟨r, hr, C⟩ : ∃ r, Hid (okP x = r) ∧ Hid (∀ W, Calls Try.prog 51 #[.agg #[.int .i64 x.v.k, .int .i64 x.v.n, .string x.v.s, .int .i64 x.d.d, .int .i64 x.d.s, .int .i64 x.i, .int .i64 x.t, .int .i64 x.a.d, .int .i64 x.a.s, .int .i64 x.j, .bool x.g]] W fun e w' => e = .returned (.bool r) ∧ Below W.heap.size W w') := ⟨_, rfl, fun W => rightPart_any x W⟩
          clear hx hnew hw2 B2 hld hgp hg
          cases r with
          | false =>
            have HF : Hid (false = F) := HN.out (right_bad HX.out hr.out)
            go_upto_region 6 with fail
            rw [← HW2.out, ← HGP.out]
            refine wp_region_noPanic ?_
            refine wp_region_held_drew (S := (fun W => Below w2.heap.size w2 W ∧ W.cell? ⟨gp, 0, none⟩ = some (.int .i64 x.v.k) ∧ W.cell? ⟨gp, 1, none⟩ = some (.int .i64 x.v.n) ∧ W.cell? ⟨gp, 2, none⟩ = some (.string x.v.s) ∧ W.cell? ⟨gp, 3, none⟩ = some (.int .i64 x.d.d) ∧ W.cell? ⟨gp, 4, none⟩ = some (.int .i64 x.d.s) ∧ W.cell? ⟨gp, 5, none⟩ = some (.int .i64 x.i) ∧ W.cell? ⟨gp, 6, none⟩ = some (.int .i64 x.t) ∧ W.cell? ⟨gp, 7, none⟩ = some (.int .i64 x.a.d) ∧ W.cell? ⟨gp, 8, none⟩ = some (.int .i64 x.a.s) ∧ W.cell? ⟨gp, 9, none⟩ = some (.int .i64 x.j) ∧ W.cell? ⟨gp, 10, none⟩ = some (.bool x.g))) (by kernel_rfl) ?_ (fun hHeld => ?_)
            · exact KA.out _ (Below.refl _ _).drew
            refine wpAnyH_one (by kernel_rfl) (fun _ _ _ _ _ h => h) (by assumption) 0 19 (some 22) ?_ _ (by rfl) (by rfl) (by kernel_rfl) (by rfl) ?_ ?_
            rotate_left 1
            · intro W hSw
              (try dsimp only at hSw)
              go_simp
              (try with_reducible rfl)
            (try simp only [Act.put, List.setIfInBounds_toArray, List.set_cons_zero, List.set_cons_succ])
            refine wpAnyH_ready (rs := [1]) (by kernel_rfl) (by simp) (AllReadyH.cons rfl (fun K hK => ?_) AllReadyH.nil)
            go_simp
            refine (C.out _).mono ?_
            rintro e wx ⟨rfl, bb⟩
            (try go_wp2_with fail)
            refine hK.out _ _ ?_ (fun hHeld => ?_)
            · (try dsimp only)
              exact KA.out _ (below_then hHeld.1 bb)
            clear hK K
            (try simp only [Act.put, List.setIfInBounds_toArray, List.set_cons_zero, List.set_cons_succ])
            refine wpAnyH_one (by kernel_rfl) (fun _ _ _ _ _ h => h) (by assumption) 2 17 (some 24) ?_ _ (by rfl) (by rfl) (by kernel_rfl) (by rfl) ?_ ?_
            rotate_left 1
            · intro W hSw
              (try dsimp only at hSw)
              go_simp
              (try with_reducible rfl)
            (try simp only [Act.put, List.setIfInBounds_toArray, List.set_cons_zero, List.set_cons_succ])
            refine wpAnyH_puts (by kernel_rfl) (fun _ _ _ _ _ h => h) (by assumption) [3, 4, 5, 6, 7, 8, 9, 10, 11, 12, 13, 14, 15, 16, 17, 18, 19] 0 [(some 25, .bool true), (some 26, undef), (some 27, undef), (some 28, undef), (some 29, undef), (some 30, undef), (some 31, undef), (some 32, undef), (some 33, undef), (some 34, undef), (some 35, undef), (some 36, undef), (some 37, undef), (some 38, undef), (some 39, undef), (some 40, undef), (some 41, .bool true)] (by kernel_rfl) (by kernel_rfl) ?_
            (try simp only [putsOf, Act.put, List.setIfInBounds_toArray, List.set_cons_zero, List.set_cons_succ])
            refine wpAnyH_done (by kernel_rfl) ?_ _
            refine NoPanic.normal ?_
            (try simp only [Act.put, List.setIfInBounds_toArray, List.set_cons_zero, List.set_cons_succ])
            have B3 := Lib.hid (below_then BB2.out hHeld.1)
            go_wp2_with fail
            go_ret
            exact ⟨ret_bool HF.out, below_then HB.out B3.out⟩
          | true =>
            by_cases hk0 : k = 0
            · have HR2 : Hid (RightL (l.take (k + 1))) := right_step HX.out hR.out hr.out (fun y h => by omega)
              have HK0 := Lib.hid hk0
              clear hk0
              go_upto_region 6 with fail
              rw [← HW2.out, ← HGP.out]
              have hk0 := HK0.out
              subst hk0
              refine wp_region_noPanic ?_
              refine wp_region_held_drew (S := (fun W => Below w2.heap.size w2 W ∧ W.cell? ⟨gp, 0, none⟩ = some (.int .i64 x.v.k) ∧ W.cell? ⟨gp, 1, none⟩ = some (.int .i64 x.v.n) ∧ W.cell? ⟨gp, 2, none⟩ = some (.string x.v.s) ∧ W.cell? ⟨gp, 3, none⟩ = some (.int .i64 x.d.d) ∧ W.cell? ⟨gp, 4, none⟩ = some (.int .i64 x.d.s) ∧ W.cell? ⟨gp, 5, none⟩ = some (.int .i64 x.i) ∧ W.cell? ⟨gp, 6, none⟩ = some (.int .i64 x.t) ∧ W.cell? ⟨gp, 7, none⟩ = some (.int .i64 x.a.d) ∧ W.cell? ⟨gp, 8, none⟩ = some (.int .i64 x.a.s) ∧ W.cell? ⟨gp, 9, none⟩ = some (.int .i64 x.j) ∧ W.cell? ⟨gp, 10, none⟩ = some (.bool x.g))) (by kernel_rfl) ?_ (fun hHeld => ?_)
              · exact KA.out _ (Below.refl _ _).drew
              refine wpAnyH_one (by kernel_rfl) (fun _ _ _ _ _ h => h) (by assumption) 0 19 (some 22) ?_ _ (by rfl) (by rfl) (by kernel_rfl) (by rfl) ?_ ?_
              rotate_left 1
              · intro W hSw
                (try dsimp only at hSw)
                go_simp
                (try with_reducible rfl)
              (try simp only [Act.put, List.setIfInBounds_toArray, List.set_cons_zero, List.set_cons_succ])
              refine wpAnyH_ready (rs := [1]) (by kernel_rfl) (by simp) (AllReadyH.cons rfl (fun K hK => ?_) AllReadyH.nil)
              go_simp
              refine (C.out _).mono ?_
              rintro e wx ⟨rfl, bb⟩
              (try go_wp2_with fail)
              refine hK.out _ _ ?_ (fun hHeld => ?_)
              · (try dsimp only)
                exact KA.out _ (below_then hHeld.1 bb)
              clear hK K
              (try simp only [Act.put, List.setIfInBounds_toArray, List.set_cons_zero, List.set_cons_succ])
              refine wpAnyH_one (by kernel_rfl) (fun _ _ _ _ _ h => h) (by assumption) 2 17 (some 24) ?_ _ (by rfl) (by rfl) (by kernel_rfl) (by rfl) ?_ ?_
              rotate_left 1
              · intro W hSw
                (try dsimp only at hSw)
                go_simp
                (try with_reducible rfl)
              (try simp only [Act.put, List.setIfInBounds_toArray, List.set_cons_zero, List.set_cons_succ])
              refine wpAnyH_puts (by kernel_rfl) (fun _ _ _ _ _ h => h) (by assumption) [3, 4] 15 [(some 25, .bool false), (some 26, .int .i64 ((0 : Nat) : Int))] (by kernel_rfl) (by kernel_rfl) ?_
              (try simp only [putsOf, Act.put, List.setIfInBounds_toArray, List.set_cons_zero, List.set_cons_succ])
              refine wpAnyH_one (by kernel_rfl) (fun _ _ _ _ _ h => h) (by assumption) 5 14 (some 27) ?_ _ (by rfl) (by rfl) (by kernel_rfl) (by rfl) ?_ ?_
              rotate_left 1
              · intro W hSw
                (try dsimp only at hSw)
                go_simp
                (try with_reducible rfl)
              (try simp only [Act.put, List.setIfInBounds_toArray, List.set_cons_zero, List.set_cons_succ])
              refine wpAnyH_puts (by kernel_rfl) (fun _ _ _ _ _ h => h) (by assumption) [6, 7, 8, 9, 10, 11, 12, 13, 14, 15, 16, 17, 18, 19] 0 [(some 28, .bool false), (some 29, undef), (some 30, undef), (some 31, undef), (some 32, undef), (some 33, undef), (some 34, undef), (some 35, undef), (some 36, undef), (some 37, undef), (some 38, undef), (some 39, undef), (some 40, .bool false), (some 41, .bool false)] (by kernel_rfl) (by kernel_rfl) ?_
              (try simp only [putsOf, Act.put, List.setIfInBounds_toArray, List.set_cons_zero, List.set_cons_succ])
              refine wpAnyH_done (by kernel_rfl) ?_ _
              refine NoPanic.normal ?_
              (try simp only [Act.put, List.setIfInBounds_toArray, List.set_cons_zero, List.set_cons_succ])
              have B3 := Lib.hid (below_then BB2.out hHeld.1)
              go_wp2_with fail
              exact ⟨⟨1, by omega, rfl, HR2, B3⟩, by simp [intOf]; omega⟩
            · obtain ⟨b', o', y, he, hb', hy, hldy⟩ := HRD.out.part (show k - 1 < n by omega)
              injection he with he
              injection he with e1 e2
              subst e1; subst e2
              have HY := Lib.hid hy
              have HKN : Hid (k - 1 + 1 = k) := by show _ = _; omega
              have KC : Hid (∀ W, Below w2.heap.size w2 W → (Below w2.heap.size w2 W ∧ W.cell? ⟨gp, 0, none⟩ = some (.int .i64 x.v.k) ∧ W.cell? ⟨gp, 1, none⟩ = some (.int .i64 x.v.n) ∧ W.cell? ⟨gp, 2, none⟩ = some (.string x.v.s) ∧ W.cell? ⟨gp, 3, none⟩ = some (.int .i64 x.d.d) ∧ W.cell? ⟨gp, 4, none⟩ = some (.int .i64 x.d.s) ∧ W.cell? ⟨gp, 5, none⟩ = some (.int .i64 x.i) ∧ W.cell? ⟨gp, 6, none⟩ = some (.int .i64 x.t) ∧ W.cell? ⟨gp, 7, none⟩ = some (.int .i64 x.a.d) ∧ W.cell? ⟨gp, 8, none⟩ = some (.int .i64 x.a.s) ∧ W.cell? ⟨gp, 9, none⟩ = some (.int .i64 x.j) ∧ W.cell? ⟨gp, 10, none⟩ = some (.bool x.g) ∧ W.cell? ⟨g, 4, none⟩ = some (.slice (some ⟨b, o, none⟩) n c) ∧ W.cell? ⟨b, o + (k - 1) * 11 + 3, none⟩ = some (.int .i64 y.d.d) ∧ W.cell? ⟨b, o + (k - 1) * 11 + 4, none⟩ = some (.int .i64 y.d.s))) := by
                intro W hW
                obtain ⟨a0, p0, p1, p2, p3, p4, p5, p6, p7, p8, p9, p10⟩ := KA.out W hW
                have h1 := hldy W (below_then BB2.out hW)
                exact ⟨a0, p0, p1, p2, p3, p4, p5, p6, p7, p8, p9, p10, KB.out W hW, h1.2.2.2.1, h1.2.2.2.2.1⟩
              clear hy hldy hb'
              obtain ⟨r3, hr3, C3⟩ : ∃ r, Hid (cmpD y.d x.d = r) ∧ Hid (∀ W, Calls Try.prog 52 #[.agg #[.int .i64 y.d.d, .int .i64 y.d.s], .agg #[.int .i64 x.d.d, .int .i64 x.d.s]] W fun e w' => e = .returned (.int .i64 r) ∧ Below W.heap.size W w') := ⟨_, rfl, fun W => (compare_any y.d x.d W).mono fun e w' h => ⟨h.1, h.2.below⟩⟩
              have z0 : (0 : Int) < (k : Int) := by omega
              have z5 : decide ((0 : Int) < (k : Int)) = true := decide_eq_true z0
              have z6 : 0 < k := by omega
              have z7 : decide (0 < k) = true := decide_eq_true z6
              have z8 : (1 : Int) ≤ (k : Int) := by omega
              have z9 : 1 ≤ k := by omega
              have z1 : (0 : Int) ≤ (k : Int) - 1 := by omega
              have z2 : (k : Int) - 1 < (n : Int) := by omega
              have z3 : ((k : Int) - 1).toNat = k - 1 := by omega
              have z4 : IntKind.i64.wrap ((k : Int) - 1) = (k : Int) - 1 := wrap_is (by omega)
              have hS0 := KC.out w2 (Below.refl _ _)
              have y1 : Hid (decide (0 ≤ r3) = true → false = F) := fun hc => by
                refine HN.out (right_low (k := k - 1) (by rw [HKN.out]; exact HX.out) HY.out ?_)
                rw [cmpD_above, hr3.out, hc]; rfl
              have y2 : Hid (decide (0 ≤ r3) = false → RightL (l.take (k + 1))) := fun hc => right_step HX.out hR.out hr.out (fun z h0 hz => by
                rw [HY.out] at hz; injection hz with hz; subst hz
                rw [cmpD_above, hr3.out, hc]; rfl)
              go_upto_region 6 with fail
              rw [← HW2.out, ← HGP.out, ← HG.out]
              go_region_held3 (fun W => Below w2.heap.size w2 W ∧ W.cell? ⟨gp, 0, none⟩ = some (.int .i64 x.v.k) ∧ W.cell? ⟨gp, 1, none⟩ = some (.int .i64 x.v.n) ∧ W.cell? ⟨gp, 2, none⟩ = some (.string x.v.s) ∧ W.cell? ⟨gp, 3, none⟩ = some (.int .i64 x.d.d) ∧ W.cell? ⟨gp, 4, none⟩ = some (.int .i64 x.d.s) ∧ W.cell? ⟨gp, 5, none⟩ = some (.int .i64 x.i) ∧ W.cell? ⟨gp, 6, none⟩ = some (.int .i64 x.t) ∧ W.cell? ⟨gp, 7, none⟩ = some (.int .i64 x.a.d) ∧ W.cell? ⟨gp, 8, none⟩ = some (.int .i64 x.a.s) ∧ W.cell? ⟨gp, 9, none⟩ = some (.int .i64 x.j) ∧ W.cell? ⟨gp, 10, none⟩ = some (.bool x.g) ∧ W.cell? ⟨g, 4, none⟩ = some (.slice (some ⟨b, o, none⟩) n c) ∧ W.cell? ⟨b, o + (k - 1) * 11 + 3, none⟩ = some (.int .i64 y.d.d) ∧ W.cell? ⟨b, o + (k - 1) * 11 + 4, none⟩ = some (.int .i64 y.d.s))
                (first
                  | exact KC.out _ ((Below.refl _ _).drew)
                  | exact KC.out _ (below_then (by go_split_ands; assumption) bb)
                  | assumption)
                (first
                  | (go_at_call 51; refine (C.out _).mono ?_; rintro e wx ⟨rfl, bb⟩)
                  | (go_at_call 52; refine (C3.out _).mono ?_; rintro e wx ⟨rfl, bb⟩))
              have hSz : Below w2.heap.size w2 wx ∧ wx.cell? ⟨gp, 0, none⟩ = some (.int .i64 x.v.k) ∧ wx.cell? ⟨gp, 1, none⟩ = some (.int .i64 x.v.n) ∧ wx.cell? ⟨gp, 2, none⟩ = some (.string x.v.s) ∧ wx.cell? ⟨gp, 3, none⟩ = some (.int .i64 x.d.d) ∧ wx.cell? ⟨gp, 4, none⟩ = some (.int .i64 x.d.s) ∧ wx.cell? ⟨gp, 5, none⟩ = some (.int .i64 x.i) ∧ wx.cell? ⟨gp, 6, none⟩ = some (.int .i64 x.t) ∧ wx.cell? ⟨gp, 7, none⟩ = some (.int .i64 x.a.d) ∧ wx.cell? ⟨gp, 8, none⟩ = some (.int .i64 x.a.s) ∧ wx.cell? ⟨gp, 9, none⟩ = some (.int .i64 x.j) ∧ wx.cell? ⟨gp, 10, none⟩ = some (.bool x.g) ∧ wx.cell? ⟨g, 4, none⟩ = some (.slice (some ⟨b, o, none⟩) n c) ∧ wx.cell? ⟨b, o + (k - 1) * 11 + 3, none⟩ = some (.int .i64 y.d.d) ∧ wx.cell? ⟨b, o + (k - 1) * 11 + 4, none⟩ = some (.int .i64 y.d.s) := by assumption
              have B3 := Lib.hid (below_then BB2.out hSz.1)
              clear z0 z1 z2 z3 z4 z5 z6 z7 z8 z9 hS0 KA KB KC C C3 hSz
              have hg9 := HG.out
              clear HG
              subst hg9
              cases hc : decide (0 ≤ r3) with
              | true =>
                have HF := Lib.hid (y1.out hc)
                go_wp2_with fail
                go_ret
                exact ⟨ret_bool HF.out, below_then HB.out B3.out⟩
              | false =>
                have HR2 := Lib.hid (y2.out hc)
                go_wp2_with fail
                exact ⟨⟨k + 1, by omega, by go_num, HR2, B3⟩, by simp [intOf]; omega⟩
        · have HF : Hid (true = F) := by
            have h1 := hR.out
            have h2 := HL.out
            rw [List.take_of_length_le (by omega)] at h1
            exact HK.out h1
          go_wp2_with fail
          go_ret
          exact ⟨ret_bool HF.out, below_then HB.out hbel.out⟩
    · have HF : Hid (false = F) := by show _ = _; rw [hF.out]; simp [rightC, hv]
      have hd : decide (va = zeroV) = false := decide_eq_false hv
      rw [hd] at EQ
      clear hd hv
      subst hk
      go_enter Try.func17, Try.ntmps17
      go_upto_region 1 with fail
      rw [← hw1]
      clear hw1
      go_wp2_with fail
      go_ret
      exact ⟨ret_bool HF.out, HB.out⟩
  · have HF : Hid (false = F) := by show _ = _; rw [hF.out]; simp [rightC, hk]
    go_enter Try.func17, Try.ntmps17
    go_upto_region 1 with fail
    rw [← hw1]
    clear hw1
    go_wp2_with fail
    all_goals go_ret
    all_goals exact ⟨ret_bool HF.out, HB.out⟩
end Go.Proofs.Ytieaobeidlhefaa

