/- Layer 10: the document's SameParts and Same; what the laws call beside: small, who. -/
import Derived.Test.YtlgpijdemfccaaaMbTxtEq
import Derived.Test.YtlgpijdemfccaaaMbTxtPlain
import Derived.Test.YtlgpijdemfccaaaMbJoin
namespace Go.Proofs.Ytlgpijdemfccaaa
set_option maxRecDepth 100000
open Go.RowKit

set_option maxHeartbeats 6400000 in
theorem sameParts_any (A B : Option Addr) (n m c d : Nat) (l l' : List P11) (w : World) (h : RdP w A n c l) (h' : RdP w B m d l') :
    Calls Try.prog 12 #[.slice A n c, .slice B m d] w fun e w' => e = .returned (.bool (decide (l = l'))) ∧ Below w.heap.size w w' := by
  have hle := h.le; have hle' := h'.le
  have HL := Lib.hid h.len; have HL' := Lib.hid h'.len
  obtain ⟨F, hF⟩ : ∃ F, Hid (decide (l = l') = F) := ⟨_, rfl⟩
  rw [hF.out]
  by_cases hnm : n = m
  rotate_left
  · have hF2 : Hid (false = F) := by
      show _ = _
      rw [← hF.out]
      exact (decide_eq_false (fun e => hnm (by rw [← HL.out, ← HL'.out, e]))).symm
    have e1 : ((n : Int) == (m : Int)) = false := by simpa using fun e => hnm (by omega)
    have e2 : (n == m) = false := by simpa using hnm
    clear h h' hnm
    go_enter Try.func12, Try.ntmps12
    go_wp2_with fail
    go_ret
    exact ⟨ret_bool hF2.out, Below.refl _ _⟩
  subst hnm
  have H1 := Lib.hid h; have H2 := Lib.hid h'
  clear h h'
  go_enter Try.func12, Try.ntmps12
  go_wp2_with fail
  go_loopw [5] (fun i wr => ∃ k : Nat, k ≤ n ∧ i = .int .i64 k ∧ Hid (l.take k = l'.take k) ∧ Hid (Below w.heap.size w wr)) (fun i _ => n - (intOf i).toNat)
  case atStart => exact ⟨0, Nat.zero_le _, rfl, by show _ = _; simp, Below.refl _ _⟩
  case round =>
    obtain ⟨k, hk, rfl, HT, HB⟩ := hrel
    by_cases hlt : k < n
    · obtain ⟨b, o, x, rfl, hb, hx, hld⟩ := H1.out.part hlt
      obtain ⟨b', o', y, rfl, hb', hy, hld'⟩ := H2.out.part hlt
      obtain ⟨c0, c1, c2, c3, c4, c5, c6, c7, c8, c9, c10⟩ := hld wr HB.out
      obtain ⟨d0, d1, d2, d3, d4, d5, d6, d7, d8, d9, d10⟩ := hld' wr HB.out
      have z1 : (0 : Int) ≤ (k : Int) := by omega
      have z2 : (k : Int) < (n : Int) := by omega
      obtain ⟨q, hq⟩ : ∃ q, Hid (decide (x = y) = q) := ⟨_, rfl⟩
      have EQ : ∀ W, (Op.equalIn 10000 45 (.agg #[.int .i64 x.v.k, .int .i64 x.v.n, .string x.v.s, .int .i64 x.d.d, .int .i64 x.d.s, .int .i64 x.i, .int .i64 x.t, .int .i64 x.a.d, .int .i64 x.a.s, .int .i64 x.j, .bool x.g])
        (.agg #[.int .i64 y.v.k, .int .i64 y.v.n, .string y.v.s, .int .i64 y.d.d, .int .i64 y.d.s, .int .i64 y.i, .int .i64 y.t, .int .i64 y.a.d, .int .i64 y.a.s, .int .i64 y.j, .bool y.g])).run Try.prog W = .ok q W := fun W => by rw [← hq.out]; exact run_equalIn_part x y W
      have HN : Hid (q = true → l.take (k + 1) = l'.take (k + 1)) := fun e => eq_take hx hy HT.out (of_decide_eq_true (hq.out.trans e))
      have HF : Hid (q = false → false = F) := fun e => by rw [← hF.out]; exact (decide_eq_false (ne_at hx hy (of_decide_eq_false (hq.out.trans e)))).symm
      clear hld hld' hx hy hq HT
      go_wp2_with fail
      go_quiet (fail)
      have HB2 := Lib.hid (below_drewN HB.out nq)
      generalize wr.drewN nq = w3 at HB2 ⊢
      clear c0 c1 c2 c3 c4 c5 c6 c7 c8 c9 c10 d0 d1 d2 d3 d4 d5 d6 d7 d8 d9 d10 EQ HB
      cases q with
      | true =>
        have HN2 := Lib.hid (HN.out rfl)
        go_wp2_with fail
        exact ⟨⟨k + 1, by omega, by go_num, HN2, HB2⟩, by simp [intOf]; omega⟩
      | false =>
        have HF2 := Lib.hid (HF.out rfl)
        go_wp2_with fail
        go_ret
        exact ⟨ret_bool HF2.out, HB2.out⟩
    · have hF2 : Hid (true = F) := by
        have h1 := HT.out
        rw [List.take_of_length_le (by have := HL.out; omega), List.take_of_length_le (by have := HL'.out; omega)] at h1
        show _ = _
        rw [← hF.out]; exact (decide_eq_true h1).symm
      go_wp2_with fail
      go_ret
      exact ⟨ret_bool hF2.out, HB.out⟩

def sameC (k : Int) (v : V3) (l : List P11) (k' : Int) (v' : V3) (l' : List P11) : Bool := decide (l = l') && ((k == k') && decide (v = v'))
set_option maxHeartbeats 3200000 in
theorem sameC_any (k : Int) (v : V3) (A : Option Addr) (n c : Nat) (l : List P11) (k' : Int) (v' : V3) (A' : Option Addr) (n' c' : Nat) (l' : List P11) (w : World) (h : RdP w A n c l) (h' : RdP w A' n' c' l') :
    Calls Try.prog 15 #[cellV k v (.slice A n c), cellV k' v' (.slice A' n' c')] w fun e w' => e = .returned (.bool (sameC k v l k' v' l')) ∧ Below w.heap.size w w' := by
  obtain ⟨w1, hw1⟩ : ∃ w1, w1 = (w.alloc (cellRow k v (.slice A n c))).alloc (cellRow k' v' (.slice A' n' c')) := ⟨_, rfl⟩
  obtain ⟨g2, hg2⟩ : ∃ g2, g2 = w.heap.size := ⟨_, rfl⟩
  obtain ⟨g3, hg3⟩ : ∃ g3, g3 = w.heap.size + 1 := ⟨_, rfl⟩
  have hb1 : Below w.heap.size w w1 := by rw [hw1]; exact below_new (below_new (Below.refl _ _) _) _
  have r2 : w1.heap[g2]? = some (cellRow k v (.slice A n c)) := by rw [hw1, hg2]; exact heap_past (by simp) (heap_alloc_new w _)
  have r3 : w1.heap[g3]? = some (cellRow k' v' (.slice A' n' c')) := by rw [hw1, hg3]; exact heap_at (by simp)
  obtain ⟨c0, c1, c2, c3, c4⟩ := cell_row5 r2
  obtain ⟨d0, d1, d2, d3, d4⟩ := cell_row5 r3
  have HB1 := Lib.hid hb1; have R2 := Lib.hid r2; have R3 := Lib.hid r3
  obtain ⟨F, hF⟩ : ∃ F, Hid (sameC k v l k' v' l' = F) := ⟨_, rfl⟩
  rw [hF.out]
  obtain ⟨r, hr, SP⟩ : ∃ r, Hid (decide (l = l') = r) ∧ Hid (Calls Try.prog 12 #[.slice A n c, .slice A' n' c'] w1 fun e w' => e = .returned (.bool r) ∧ Below w1.heap.size w1 w') := ⟨_, rfl, sameParts_any A A' n n' c c' l l' w1 (h.below hb1) (h'.below hb1)⟩
  obtain ⟨q, hq⟩ : ∃ q, Hid (decide (v = v') = q) := ⟨_, rfl⟩
  have EQ : ∀ W, (Op.equalIn 10000 23 (.agg #[.int .i64 v.k, .int .i64 v.n, .string v.s]) (.agg #[.int .i64 v'.k, .int .i64 v'.n, .string v'.s])).run Try.prog W = .ok q W := fun W => by rw [← hq.out]; exact run_equalIn_valF 9998 v v' W
  have hF2 : Hid ((r && ((k == k') && q)) = F) := by show _ = _; rw [← hF.out, sameC, hr.out, hq.out]
  clear h h' hb1 r2 r3 hr hq hF
  go_enter Try.func15, Try.ntmps15
  go_upto_region 1 with fail
  rw [show (w.alloc (cellRow k v (.slice A n c))).alloc (cellRow k' v' (.slice A' n' c')) = w1 from hw1.symm, show w.heap.size + 1 = g3 from hg3.symm, ← hg2]
  clear hw1 hg2 hg3
  go_wp2_with fail
  refine SP.out.mono ?_
  rintro e w2 ⟨rfl, b2⟩
  have HB2 := Lib.hid (below_then HB1.out b2)
  obtain ⟨c0, c1, c2, c3, c4⟩ := cell_row5 (row_below R2.out b2)
  obtain ⟨d0, d1, d2, d3, d4⟩ := cell_row5 (row_below R3.out b2)
  clear SP b2
  cases r with
  | false =>
    have hF3 : Hid (false = F) := hF2.out
    go_wp2_with fail
    go_ret
    exact ⟨ret_bool hF3.out, HB2.out⟩
  | true =>
    by_cases hk : k = k'
    · subst hk
      have hF3 : Hid (q = F) := by show _ = _; rw [← hF2.out]; simp
      go_wp2_with fail
      go_ret
      exact ⟨ret_bool hF3.out, HB2.out⟩
    · have e1 : (k == k') = false := by simpa using hk
      have hF3 : Hid (false = F) := by show _ = _; rw [← hF2.out, e1]; rfl
      clear hk
      go_wp2_with fail
      go_ret
      exact ⟨ret_bool hF3.out, HB2.out⟩

theorem small_any (k : Int) (v : V3) (A : Option Addr) (n c : Nat) (w : World) :
    Calls Try.prog 7 #[cellV k v (.slice A n c)] w fun e w' => e = .returned (.bool (decide (n ≤ 40))) ∧ Below w.heap.size w w' := by
  go_enter Try.func7, Try.ntmps7
  go_wp2
  go_ret
  refine ⟨ret_bool ?_, below_new (Below.refl _ _) _⟩
  rw [Bool.eq_iff_iff]
  simp
  try omega
theorem who_any (t d : Int) (w : World) : Calls Try.prog 21 #[.int .i64 t, .int .i64 d] w fun e w' => e = .returned (S3.agg ⟨t, d, 1⟩) ∧ w' = w.alloc (stampRow ⟨t, d, 1⟩) := by
  go_enter Try.func21, Try.ntmps21
  go_wp2
  refine bodyPost_ret (v := S3.agg ⟨t, d, 1⟩) (results_cell_row rfl _ _ w.heap.size 37 _ (0, 0) _ rfl (heap_at (by simp)) Try.underlying37 rfl (by kernel_rfl)) rfl ⟨rfl, rfl⟩
end Go.Proofs.Ytlgpijdemfccaaa

