/- Layer 11: the code's Right. -/
import Derived.Test.YtogfnjlhfbpneaaSchQs
import Derived.WalkMore
import Derived.Laws.EntriesVeiled
import Derived.Deep.LoopGhost
namespace Go.Proofs.Ytogfnjlhfbpneaa
set_option maxRecDepth 100000
open Go.RowKit

theorem firstE_one {n k : Nat} {f : Nat → Int} (hk : k < n) (h : ∀ i, i < k → f i = 0) (he : f k ≠ 0) : firstE n f = f k := firstE_at n k f hk h he
theorem zero_next {k : Nat} {f : Nat → Int} (h : ∀ i, i < k → f i = 0) (he : f k = 0) : ∀ i, i < k + 1 → f i = 0 := fun i hi => by
  by_cases e : i = k
  · subst e; exact he
  · exact h i (by omega)
theorem rightE_in {l : List T6} {n : Nat} (hl : l.length = n) (h1 : ¬ n = 0) (h2 : ¬ 16 < n) : rightE l = firstE n (fun i => tabErr n (l.take i) (l.getD i t60)) := by
  rw [rightE, hl, if_neg (by omega)]

theorem askE_le {w : World} {n : Nat} {a : List T6} {t : T6} (h : t.Reads w) (q : Nat) : (askE n a t q).1 ≤ 9223372036854775807 := by
  have h1 := h.cols.le; have h2 := h.uni.le; have h3 := h.fks.le; have h4 := h.sums.le
  match q with
  | 0 => simp [askE]
  | 1 => simp [askE]
  | 2 => exact h1
  | 3 => simp [askE]
  | 4 => exact h2
  | 5 => exact h3
  | 6 => exact h4
  | _ + 7 => simp [askE]

set_option maxHeartbeats 6400000 in
theorem right11_any (A : Option Addr) (n c : Nat) (l : List T6) (w : World) (h : RdS w A n c l) :
    Calls Try.prog 14 #[.agg #[.slice A n c]] w fun e w' => e = .returned (.int .i64 (rightE l)) ∧ Below w.heap.size w w' := by
  have hle := h.le
  have HL := Lib.hid h.len
  obtain ⟨w1, hw1⟩ : ∃ w1, w1 = w.alloc (schBox A n c) := ⟨_, rfl⟩
  have HW1 := Lib.hid hw1
  have HB1 : Hid (Below w.heap.size w w1) := by rw [hw1]; exact below_new (Below.refl _ _) _
  have R1 : Hid (w1.heap[w.heap.size]? = some (schBox A n c)) := by rw [hw1]; exact heap_alloc_new _ _
  have HR := Lib.hid (h.below HB1.out)
  obtain ⟨E, hE⟩ : ∃ E, Hid (rightE l = E) := ⟨_, rfl⟩
  rw [hE.out]
  have c0 := sch_row R1.out
  clear hw1 h
  go_enter Try.func14, Try.ntmps14
  go_upto_region 1 with fail
  rw [show w.alloc (schBox A n c) = w1 from HW1.out.symm]
  clear HW1
  go_step3
  by_cases hn0 : n = 0
  · have e0 : ((n : Int) == 0) = true := by simpa using hn0
    have hE2 : Hid (E = 2) := by show _ = _; rw [← hE.out, rightE, HL.out, if_pos (Or.inl hn0)]
    clear hn0
    go_wp2_with fail
    rw [Exit.noGoto_ret]
    go_ret
    exact ⟨ret_int hE2.out.symm, HB1.out⟩
  have e0 : ((n : Int) == 0) = false := by simpa using hn0
  by_cases hn16 : 16 < n
  · have e1 : (16 : Int) < (n : Int) := by omega
    have hE2 : Hid (E = 2) := by show _ = _; rw [← hE.out, rightE, HL.out, if_pos (Or.inr hn16)]
    clear hn0
    go_wp2_with fail
    rw [Exit.noGoto_ret]
    go_ret
    exact ⟨ret_int hE2.out.symm, HB1.out⟩
  have e1 : ¬ (16 : Int) < (n : Int) := by omega
  have hE2 : Hid (E = firstE n (fun i => tabErr n (l.take i) (l.getD i t60))) := by show _ = _; rw [← hE.out]; exact rightE_in HL.out hn0 hn16
  clear hn0 hn16 hE
  go_wp2_with fail
  go_step3
  go_wp2_with fail
  clear c0 e0 e1
  go_loopw [3, 21] (fun e i wr => ∃ k : Nat, k ≤ n ∧ i = .int .i64 k ∧ e = .int .i64 0 ∧ Hid (∀ j, j < k → tabErr n (l.take j) (l.getD j t60) = 0) ∧ Hid (Below w1.heap.size w1 wr)) (fun _ i _ => n - (intOf i).toNat)
  case atStart => exact ⟨0, Nat.zero_le _, rfl, rfl, by show ∀ j, _; intro j h; exact absurd h (by omega), Below.refl _ _⟩
  case round =>
    obtain ⟨k, hk, rfl, rfl, hA, KB⟩ := hrel
    have HB := Lib.hid (below_then HB1.out KB.out)
    by_cases hlt : k < n
    · have c0 := sch_row (row_below R1.out KB.out)
      have C := Lib.hid (questions_any A n c k l wr (HR.out.below KB.out) hlt)
      have y1 : (k : Int) < (n : Int) := by omega
      go_wp2_with fail
      refine C.out.mono ?_
      rintro e w2 ⟨Aq, qs, rfl, hq, hask, b2⟩
      have HQ := Lib.hid hq
      have HAS := Lib.hid hask
      have KB2 := Lib.hid (below_then KB.out b2)
      clear C b2 hq hask c0
      go_wp2_with fail
      go_loopw [3, 28] (fun e i wr2 => ∃ q : Nat, q ≤ 7 ∧ i = .int .i64 q ∧ e = .int .i64 0 ∧ Hid (∀ p, p < q → ask1 n (l.take k) (l.getD k t60) p = 0) ∧ Hid (Below w2.heap.size w2 wr2)) (fun _ i _ => 7 - (intOf i).toNat)
      case atStart => exact ⟨0, Nat.zero_le _, rfl, rfl, by show ∀ j, _; intro j h; exact absurd h (by omega), Below.refl _ _⟩
      case round =>
        obtain ⟨q, hq7, rfl, rfl, hP, QB⟩ := hrel
        by_cases hql : q < 7
        · obtain ⟨b, o, x, rfl, hb, hx, hld⟩ := HQ.out.qst hql
          obtain ⟨d0, d1⟩ := hld wr QB.out
          obtain ⟨hm, eg, hC⟩ := HAS.out.2 q x hx
          have HC := Lib.hid (hC hP.out)
          have hm2 := Lib.hid hm
          have hml : x.m ≤ 9223372036854775807 := by
            obtain ⟨_, _, t, _, _, htx, htr, _⟩ := HR.out.tab hlt
            rw [hm, getD_of htx]
            exact askE_le htr q
          have z1 : (q : Int) < 7 := by omega
          have z0 : (0 : Int) ≤ (q : Int) := by omega
          obtain ⟨w3, hw3⟩ : ∃ w3, w3 = wr.alloc (.cells #[.int .i64 x.m, .func (.func x.g) #[] x.cb] 58) := ⟨_, rfl⟩
          have HW3 := Lib.hid hw3
          have QB3 : Hid (Below w2.heap.size w2 w3) := by rw [hw3]; exact below_new QB.out _
          have R3 : Hid (w3.heap[wr.heap.size]? = some (.cells #[.int .i64 x.m, .func (.func x.g) #[] x.cb] 58)) := by rw [hw3]; exact heap_alloc_new _ _
          clear hld hb hx hC hm hw3
          go_upto_region 10 with fail
          rw [show wr.alloc (.cells #[.int .i64 x.m, .func (.func x.g) #[] x.cb] 58) = w3 from HW3.out.symm]
          clear HW3 d0 d1
          generalize wr.heap.size = gx at R3 ⊢
          have f0 : w3.cell? ⟨gx, 0, none⟩ = some (.int .i64 x.m) := cell_row R3.out 0
          go_wp2_with fail
          clear f0
          go_loopw [3, 34] (fun e i wq => ∃ j : Nat, j ≤ x.m ∧ i = .int .i64 j ∧ e = .int .i64 0 ∧ Hid (∀ p, p < j → (askE n (l.take k) (l.getD k t60) q).2 p = 0) ∧ Hid (Below w3.heap.size w3 wq)) (fun _ i _ => x.m - (intOf i).toNat)
          case atStart => exact ⟨0, Nat.zero_le _, rfl, rfl, by show ∀ j, _; intro j h; exact absurd h (by omega), Below.refl _ _⟩
          case round =>
            obtain ⟨j, hj, rfl, rfl, hF, JB⟩ := hrel
            by_cases hjm : j < x.m
            · have f1 : wr.cell? ⟨gx, 1, none⟩ = some (.func (.func x.g) #[] x.cb) := cell_row (row_below R3.out JB.out) 1
              obtain ⟨r, hr⟩ : ∃ r, Hid ((askE n (l.take k) (l.getD k t60) q).2 j = r) := ⟨_, rfl⟩
              have CC : Hid (Calls Try.prog x.g (#[.int .i64 j] ++ x.cb) wr fun e W' => e = .returned (.int .i64 r) ∧ Below wr.heap.size wr W') := by
                rw [← hr.out]; exact HC.out wr (below_then QB3.out JB.out) j hjm
              have v1 : (j : Int) < (x.m : Int) := by omega
              go_wp2_with fail
              refine CC.out.mono ?_
              rintro e w4 ⟨rfl, b4⟩
              have JB4 := Lib.hid (below_then JB.out b4)
              have HB4 := Lib.hid (below_then HB1.out (below_then KB2.out (below_then QB3.out JB4.out)))
              clear CC b4 f1
              by_cases hr0 : r = 0
              · subst hr0
                have hF2 : Hid (∀ p, p < j + 1 → (askE n (l.take k) (l.getD k t60) q).2 p = 0) := by show ∀ p, _; exact zero_next hF.out hr.out
                clear hr
                go_wp2_with fail
                exact ⟨⟨j + 1, by omega, by go_num, rfl, hF2, JB4⟩, by simp [intOf]; omega⟩
              · have hf : Hid (E = r) := by
                  show _ = _
                  have h1 : ask1 n (l.take k) (l.getD k t60) q = r := by
                    rw [ask1, firstE_one (k := j) (by rw [← hm2.out]; exact hjm) hF.out (by rw [hr.out]; exact hr0), hr.out]
                  have h2 : tabErr n (l.take k) (l.getD k t60) = r := by
                    rw [tabErr, firstE_one (k := q) hql hP.out (by rw [h1]; exact hr0), h1]
                  rw [hE2.out, firstE_one (k := k) hlt hA.out (by rw [h2]; exact hr0), h2]
                have q0 := beq_no hr0
                have q1 : (r != 0) = true := by simp [bne, q0]
                clear hr0
                go_wp2_with fail
                try rw [Exit.noGoto_ret]
                go_ret
                exact ⟨ret_int hf.out.symm, HB4.out⟩
            · obtain rfl : j = x.m := by omega
              have v1 : ¬ (x.m : Int) < (x.m : Int) := by omega
              have hP2 : Hid (∀ p, p < q + 1 → ask1 n (l.take k) (l.getD k t60) p = 0) := by
                show ∀ p, _
                refine zero_next hP.out ?_
                rw [ask1, firstE_zero, ← hm2.out]
                exact hF.out
              have QB4 := Lib.hid (below_then QB3.out JB.out)
              go_wp2_with fail
              exact ⟨⟨q + 1, by omega, by go_num, rfl, hP2, QB4⟩, by simp [intOf]; omega⟩
        · obtain rfl : q = 7 := by omega
          have hA2 : Hid (∀ j, j < k + 1 → tabErr n (l.take j) (l.getD j t60) = 0) := by
            show ∀ j, _
            refine zero_next hA.out ?_
            rw [tabErr, firstE_zero]
            exact hP.out
          have KB3 := Lib.hid (below_then KB2.out QB.out)
          go_wp2_with fail
          exact ⟨⟨k + 1, by omega, by go_num, rfl, hA2, KB3⟩, by simp [intOf]; omega⟩
    · obtain rfl : k = n := by omega
      have y1 : ¬ (k : Int) < (k : Int) := by omega
      have hf : Hid (E = 0) := by show _ = _; rw [hE2.out, firstE_zero]; exact hA.out
      go_wp2_with fail
      go_ret
      exact ⟨ret_int hf.out.symm, HB.out⟩
end Go.Proofs.Ytogfnjlhfbpneaa
