/- Layer 10: text.free, text.mayStand and its closure, the closure of text.mayType. -/
import Derived.Test.YthniobpmaahggaaMbTxtRight
import Derived.Test.YthniobpmaahggaaMbTxtLib
import Derived.Test.YthniobpmaahggaaMbClkOpen
import Derived.Test.YthniobpmaahggaaMbTxtErase
namespace Go.Proofs.Ythniobpmaahggaa
set_option maxRecDepth 100000
open Go.RowKit

/-- the first place behind all those that a transaction has -/
def freeT (l : List P11) (d : D2) : Int := l.foldl (fun m p => if p.d = d then max m (p.i + 1) else m) 0
theorem free_next {l : List P11} {k : Nat} {x : P11} (hx : l[k]? = some x) (d : D2) : freeT (l.take (k + 1)) d = if x.d = d then max (freeT (l.take k) d) (x.i + 1) else freeT (l.take k) d := by
  rw [take_succ hx, freeT, List.foldl_append]; rfl
theorem free_append (l : List P11) (x : P11) (d : D2) : freeT (l ++ [x]) d = if x.d = d then max (freeT l d) (x.i + 1) else freeT l d := by
  rw [freeT, List.foldl_append]; rfl
theorem free_le {l : List P11} {d : D2} (h : ∀ p ∈ l, 0 ≤ p.i ∧ p.i < 2000) : 0 ≤ freeT l d ∧ freeT l d ≤ 2000 := by
  suffices H : ∀ (l : List P11) (m : Int), (∀ p ∈ l, 0 ≤ p.i ∧ p.i < 2000) → 0 ≤ m → m ≤ 2000 → 0 ≤ l.foldl (fun m p => if p.d = d then max m (p.i + 1) else m) m ∧ l.foldl (fun m p => if p.d = d then max m (p.i + 1) else m) m ≤ 2000 from H l 0 h (by omega) (by omega)
  intro l
  induction l with
  | nil => intro m _ h0 h1; exact ⟨h0, h1⟩
  | cons x l ih =>
    intro m h h0 h1
    have hx := h x (.head _)
    rw [List.foldl_cons]
    split
    · exact ih _ (fun p hp => h p (.tail _ hp)) (by omega) (by omega)
    · exact ih _ (fun p hp => h p (.tail _ hp)) h0 h1

set_option maxHeartbeats 3200000 in
theorem freeT_any (A : Option Addr) (n c : Nat) (l : List P11) (d : D2) (w : World) (h : RdP w A n c l) (hi : ∀ p ∈ l, 0 ≤ p.i ∧ p.i < 2000) :
    Calls Try.prog 33 #[.slice A n c, d.agg] w fun e w' => e = .returned (.int .i64 (freeT l d)) ∧ Below w.heap.size w w' := by
  obtain ⟨w1, hw1⟩ : ∃ w1, w1 = w.alloc (dotRowT d) := ⟨_, rfl⟩
  obtain ⟨g3, hg3⟩ : ∃ g3, g3 = w.heap.size := ⟨_, rfl⟩
  have hb1 : Below w.heap.size w w1 := by rw [hw1]; exact below_new (Below.refl _ _) _
  have r3 : w1.heap[g3]? = some (dotRowT d) := by rw [hw1, hg3]; exact heap_alloc_new w _
  have HRD := Lib.hid (h.below hb1); have HL := Lib.hid h.len; have HI := Lib.hid hi; have HB1 := Lib.hid hb1; have R3 := Lib.hid r3
  have hle := h.le
  obtain ⟨F, hF⟩ : ∃ F, Hid (freeT l d = F) := ⟨_, rfl⟩
  rw [hF.out]
  replace hw1 := Lib.hid hw1
  clear h hb1 r3 hi
  go_enter Try.func33, Try.ntmps33
  go_upto_region 1 with fail
  rw [show w.alloc (dotRowT d) = w1 from hw1.out.symm, ← hg3]
  clear hw1
  replace hg3 := Lib.hid hg3
  go_wp2_with fail
  go_loopw [5, 10] (fun s i wr => ∃ (k : Nat) (m : Int), k ≤ n ∧ i = .int .i64 k ∧ s = .int .i64 m ∧ Hid (m = freeT (l.take k) d) ∧ Hid (Below w1.heap.size w1 wr)) (fun _ i _ => n - (intOf i).toNat)
  case atStart => exact ⟨0, 0, Nat.zero_le _, rfl, rfl, rfl, Below.refl _ _⟩
  case round =>
    obtain ⟨k, m, hk, rfl, rfl, hm, HB⟩ := hrel
    by_cases hlt : k < n
    · obtain ⟨b, o, x, rfl, hb, hx, hld⟩ := HRD.out.part hlt
      obtain ⟨c0, c1, c2, c3, c4, c5, c6, c7, c8, c9, c10⟩ := hld wr HB.out
      have hnx := Lib.hid (free_next hx d)
      have hxi := HI.out x (List.mem_of_getElem? hx)
      have hmm := free_le (l := l.take k) (d := d) (fun p hp => HI.out p (List.mem_of_mem_take hp))
      rw [← hm.out] at hmm
      have zw : IntKind.i64.wrap (x.i + 1) = x.i + 1 := wrap_is (by omega)
      obtain ⟨w2, hw2⟩ : ∃ w2, w2 = wr.alloc (partCells x) := ⟨_, rfl⟩
      obtain ⟨gx, hgx⟩ : ∃ gx, gx = wr.heap.size := ⟨_, rfl⟩
      have bb : Below wr.heap.size wr w2 := by rw [hw2]; exact below_new (Below.refl _ _) _
      have hnew : w2.heap[gx]? = some (partCells x) := by rw [hw2, hgx]; exact heap_alloc_new _ _
      obtain ⟨e0, e1, e2, e3, e4, e5, e6, e7, e8, e9, e10⟩ := part_row hnew
      have HB2 := Lib.hid (below_then HB.out bb)
      obtain ⟨d0, d1⟩ := dot_rowT (row_below R3.out HB2.out)
      obtain ⟨q, hq⟩ : ∃ q, Hid (decide (x.d = d) = q) := ⟨_, rfl⟩
      have EQ : ∀ W, (Op.equalIn 10000 37 (.agg #[.int .i64 x.d.d, .int .i64 x.d.s]) (.agg #[.int .i64 d.d, .int .i64 d.s])).run Try.prog W = .ok q W := fun W => by rw [← hq.out]; exact run_equalIn_dotF 9998 x.d d W
      clear hld hx bb hnew HB
      replace hw2 := Lib.hid hw2; replace hgx := Lib.hid hgx
      have HX := Lib.hid hxi; have HM := Lib.hid hmm
      clear hxi hmm
      go_upto_region 5 with fail
      rw [show wr.alloc (partCells x) = w2 from hw2.out.symm, show wr.heap.size = gx from hgx.out.symm]
      clear hw2 hgx c0 c1 c2 c3 c4 c5 c6 c7 c8 c9 c10
      cases q with
      | false =>
        have hm2 : Hid (m = freeT (l.take (k + 1)) d) := by show _ = _; rw [hnx.out, if_neg (of_decide_eq_false hq.out)]; exact hm.out
        clear zw
        go_wp2_with fail
        exact ⟨⟨k + 1, m, by omega, by go_num, rfl, hm2, HB2⟩, by simp [intOf]; omega⟩
      | true =>
        have hm2 : Hid (max m (x.i + 1) = freeT (l.take (k + 1)) d) := by show _ = _; rw [hnx.out, if_pos (of_decide_eq_true hq.out), hm.out]
        go_wp2_with fail
        all_goals
          exact ⟨⟨k + 1, _, by omega, by go_num, rfl, hm2, HB2⟩, by simp [intOf]; omega⟩
    · have hm2 : Hid (m = F) := by show _ = _; rw [← hF.out, hm.out, List.take_of_length_le (by have := HL.out; omega)]
      go_wp2_with fail
      go_ret
      exact ⟨ret_int hm2.out, below_then HB1.out HB.out⟩

/-- the closure of mayStand -/
theorem standC_any (x : P11) (N : N3) (g : Nat) (w : World) (h : w.heap[g]? = some (nameRow N)) :
    Calls Try.prog 56 #[x.agg, .pointer (some ⟨g, 0, none⟩)] w fun e w' => e = .returned (.bool (decide (nm x = N))) ∧ Below w.heap.size w w' := by
  obtain ⟨w1, hw1⟩ : ∃ w1, w1 = w.alloc (partCells x) := ⟨_, rfl⟩
  obtain ⟨gx, hgx⟩ : ∃ gx, gx = w.heap.size := ⟨_, rfl⟩
  have hb1 : Below w.heap.size w w1 := by rw [hw1]; exact below_new (Below.refl _ _) _
  have hnew : w1.heap[gx]? = some (partCells x) := by rw [hw1, hgx]; exact heap_alloc_new _ _
  have hN1 := row_below h hb1
  obtain ⟨q, hq⟩ : ∃ q, Hid (decide (nm x = N) = q) := ⟨_, rfl⟩
  rw [hq.out]
  obtain ⟨M, hM⟩ : ∃ M, Hid (nm x = M) := ⟨_, rfl⟩
  have PN : Hid (∀ W, Calls Try.prog 30 #[x.agg] W fun e w' => e = .returned M.agg ∧ w' = (W.alloc (partCells x)).alloc (nameRow M)) := fun W => by rw [← hM.out]; exact nameOf_is x W
  have EQ : ∀ W, (Op.equalIn 10000 55 (.agg #[.int .i64 M.d.d, .int .i64 M.d.s, .int .i64 M.i]) (.agg #[.int .i64 N.d.d, .int .i64 N.d.s, .int .i64 N.i])).run Try.prog W = .ok q W := fun W => by
    have := run_equalIn_nameF 9997 M N W
    rw [show decide (M = N) = q by rw [← hM.out]; exact hq.out] at this
    exact this
  have K : Hid (∀ W, Below w1.heap.size w1 W → W.cell? ⟨gx, 0, none⟩ = some (.int .i64 x.v.k) ∧ W.cell? ⟨gx, 1, none⟩ = some (.int .i64 x.v.n) ∧ W.cell? ⟨gx, 2, none⟩ = some (.string x.v.s) ∧ W.cell? ⟨gx, 3, none⟩ = some (.int .i64 x.d.d) ∧ W.cell? ⟨gx, 4, none⟩ = some (.int .i64 x.d.s) ∧ W.cell? ⟨gx, 5, none⟩ = some (.int .i64 x.i) ∧ W.cell? ⟨gx, 6, none⟩ = some (.int .i64 x.t) ∧ W.cell? ⟨gx, 7, none⟩ = some (.int .i64 x.a.d) ∧ W.cell? ⟨gx, 8, none⟩ = some (.int .i64 x.a.s) ∧ W.cell? ⟨gx, 9, none⟩ = some (.int .i64 x.j) ∧ W.cell? ⟨gx, 10, none⟩ = some (.bool x.g) ∧ W.cell? ⟨g, 0, none⟩ = some (.int .i64 N.d.d) ∧ W.cell? ⟨g, 1, none⟩ = some (.int .i64 N.d.s) ∧ W.cell? ⟨g, 2, none⟩ = some (.int .i64 N.i)) := fun W hW => by
    obtain ⟨p0, p1, p2, p3, p4, p5, p6, p7, p8, p9, p10⟩ := part_row (row_below hnew hW)
    obtain ⟨q0, q1, q2⟩ := stamp_at (row_below hN1 hW)
    exact ⟨p0, p1, p2, p3, p4, p5, p6, p7, p8, p9, p10, q0, q1, q2⟩
  have HB1 := Lib.hid hb1
  clear h hb1 hnew hN1 hq hM
  go_enter Try.func56, Try.ntmps56
  go_upto_region 1 with fail
  rw [show w.alloc (partCells x) = w1 from hw1.symm, ← hgx]
  clear hw1 hgx
  go_region_held3 (fun W => W.cell? ⟨gx, 0, none⟩ = some (.int .i64 x.v.k) ∧ W.cell? ⟨gx, 1, none⟩ = some (.int .i64 x.v.n) ∧ W.cell? ⟨gx, 2, none⟩ = some (.string x.v.s) ∧ W.cell? ⟨gx, 3, none⟩ = some (.int .i64 x.d.d) ∧ W.cell? ⟨gx, 4, none⟩ = some (.int .i64 x.d.s) ∧ W.cell? ⟨gx, 5, none⟩ = some (.int .i64 x.i) ∧ W.cell? ⟨gx, 6, none⟩ = some (.int .i64 x.t) ∧ W.cell? ⟨gx, 7, none⟩ = some (.int .i64 x.a.d) ∧ W.cell? ⟨gx, 8, none⟩ = some (.int .i64 x.a.s) ∧ W.cell? ⟨gx, 9, none⟩ = some (.int .i64 x.j) ∧ W.cell? ⟨gx, 10, none⟩ = some (.bool x.g) ∧ W.cell? ⟨g, 0, none⟩ = some (.int .i64 N.d.d) ∧ W.cell? ⟨g, 1, none⟩ = some (.int .i64 N.d.s) ∧ W.cell? ⟨g, 2, none⟩ = some (.int .i64 N.i))
    (first
      | (refine K.out _ ?_; (repeat (first | exact Below.refl _ _ | refine below_new ?_ _ | refine Below.drew ?_)); done))
    (first
      | (go_at_call 30; refine (PN.out _).mono ?_; rintro e wx ⟨rfl, rfl⟩))
  have hbz : Below w1.heap.size w1 ((w1.alloc (partCells x)).alloc (nameRow M)).drew := (below_new (below_new (Below.refl _ _) _) _).drew
  generalize ((w1.alloc (partCells x)).alloc (nameRow M)).drew = w2 at hbz ⊢
  have HB2 := Lib.hid (below_then HB1.out hbz)
  clear hbz
  go_wp2_with fail
  go_ret
  exact ⟨rfl, HB2.out⟩

/-- the closure of mayType -/
theorem typeC_any (x : P11) (d : D2) (s : S3) (g h : Nat) (w : World) (h1 : w.heap[g]? = some (dotRowT d)) (h2 : w.heap[h]? = some (stampRow s)) :
    Calls Try.prog 45 #[x.agg, .pointer (some ⟨g, 0, none⟩), .pointer (some ⟨h, 0, none⟩)] w fun e w' => e = .returned (.bool (decide (x.d = d) && !(x.t == s.t))) ∧ Below w.heap.size w w' := by
  obtain ⟨w1, hw1⟩ : ∃ w1, w1 = w.alloc (partCells x) := ⟨_, rfl⟩
  obtain ⟨gx, hgx⟩ : ∃ gx, gx = w.heap.size := ⟨_, rfl⟩
  have hb1 : Below w.heap.size w w1 := by rw [hw1]; exact below_new (Below.refl _ _) _
  have hnew : w1.heap[gx]? = some (partCells x) := by rw [hw1, hgx]; exact heap_alloc_new _ _
  obtain ⟨p0, p1, p2, p3, p4, p5, p6, p7, p8, p9, p10⟩ := part_row hnew
  obtain ⟨d0, d1⟩ := dot_rowT (row_below h1 hb1)
  obtain ⟨s0, s1, s2⟩ := stamp_at (row_below h2 hb1)
  obtain ⟨q, hq⟩ : ∃ q, Hid (decide (x.d = d) = q) := ⟨_, rfl⟩
  rw [hq.out]
  have EQ : ∀ W, (Op.equalIn 10000 37 (.agg #[.int .i64 x.d.d, .int .i64 x.d.s]) (.agg #[.int .i64 d.d, .int .i64 d.s])).run Try.prog W = .ok q W := fun W => by rw [← hq.out]; exact run_equalIn_dotF 9998 x.d d W
  have HB1 := Lib.hid hb1
  clear h1 h2 hb1 hnew hq
  go_enter Try.func45, Try.ntmps45
  go_upto_region 1 with fail
  rw [show w.alloc (partCells x) = w1 from hw1.symm, ← hgx]
  clear hw1 hgx
  cases q with
  | false =>
    go_wp2_with fail
    go_ret
    exact ⟨rfl, HB1.out⟩
  | true =>
    go_wp2_with fail
    go_ret
    exact ⟨ret_bool (by simp [bne]), HB1.out⟩
end Go.Proofs.Ythniobpmaahggaa

