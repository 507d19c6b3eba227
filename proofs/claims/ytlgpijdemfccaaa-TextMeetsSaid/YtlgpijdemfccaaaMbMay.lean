/- Several texts laid together: TxtMay, TxtMay2. -/
import Derived.Test.YtlgpijdemfccaaaMbTxtRight
import Derived.Test.YtlgpijdemfccaaaMbTxtLib
import Derived.Test.YtlgpijdemfccaaaMbClkOpen
import Derived.Test.YtlgpijdemfccaaaMbTxtErase
namespace Go.Proofs.Ytlgpijdemfccaaa
set_option maxRecDepth 100000
open Go.RowKit

/-- the first place behind all those that a transaction has -/
def freeT (l : List P11) (d : D2) : Int := l.foldl (fun m p => if p.d = d then max m (p.i + 1) else m) 0
theorem free_next {l : List P11} {k : Nat} {x : P11} (hx : l[k]? = some x) (d : D2) : freeT (l.take (k + 1)) d = if x.d = d then max (freeT (l.take k) d) (x.i + 1) else freeT (l.take k) d := by
  rw [take_succ hx, freeT, List.foldl_append]; rfl
theorem free_append (l : List P11) (x : P11) (d : D2) : freeT (l ++ [x]) d = if x.d = d then max (freeT l d) (x.i + 1) else freeT l d := by
  rw [freeT, List.foldl_append]; rfl
theorem free_le {l : List P11} {d : D2} (h : ∀ p ∈ l, 0 ≤ p.i ∧ p.i < 2000) : 0 ≤ freeT l d ∧ freeT l d ≤ 2000 := by
  suffices H : ∀ (l : List P11) (m : Int), (∀ p ∈ l, 0 ≤ p.i ∧ p.i < 2000) → 0 ≤ m → m ≤ 2000 → 0 ≤ l.foldl (fun m p => if p.d = d then max m (p.i + 1) else m) m ∧ l.foldl (fun m p => if p.d = d then max m (p.i + 1) else m) m ≤ 2000 from H l 0 h (by omega) (by omega)
  intro l
  induction l with
  | nil => intro m _ h0 h1; exact ⟨h0, h1⟩
  | cons x l ih =>
    intro m h h0 h1
    have hx := h x (.head _)
    rw [List.foldl_cons]
    split
    · exact ih _ (fun p hp => h p (.tail _ hp)) (by omega) (by omega)
    · exact ih _ (fun p hp => h p (.tail _ hp)) h0 h1

set_option maxHeartbeats 3200000 in
theorem freeT_any (A : Option Addr) (n c : Nat) (l : List P11) (d : D2) (w : World) (h : RdP w A n c l) (hi : ∀ p ∈ l, 0 ≤ p.i ∧ p.i < 2000) :
    Calls Try.prog 31 #[.slice A n c, d.agg] w fun e w' => e = .returned (.int .i64 (freeT l d)) ∧ Below w.heap.size w w' := by
  obtain ⟨w1, hw1⟩ : ∃ w1, w1 = w.alloc (dotRowT d) := ⟨_, rfl⟩
  obtain ⟨g3, hg3⟩ : ∃ g3, g3 = w.heap.size := ⟨_, rfl⟩
  have hb1 : Below w.heap.size w w1 := by rw [hw1]; exact below_new (Below.refl _ _) _
  have r3 : w1.heap[g3]? = some (dotRowT d) := by rw [hw1, hg3]; exact heap_alloc_new w _
  have HRD := Lib.hid (h.below hb1); have HL := Lib.hid h.len; have HI := Lib.hid hi; have HB1 := Lib.hid hb1; have R3 := Lib.hid r3
  have hle := h.le
  obtain ⟨F, hF⟩ : ∃ F, Hid (freeT l d = F) := ⟨_, rfl⟩
  rw [hF.out]
  replace hw1 := Lib.hid hw1
  clear h hb1 r3 hi
  go_enter Try.func31, Try.ntmps31
  go_upto_region 1 with fail
  rw [show w.alloc (dotRowT d) = w1 from hw1.out.symm, ← hg3]
  clear hw1
  replace hg3 := Lib.hid hg3
  go_wp2_with fail
  go_loopw [5, 10] (fun s i wr => ∃ (k : Nat) (m : Int), k ≤ n ∧ i = .int .i64 k ∧ s = .int .i64 m ∧ Hid (m = freeT (l.take k) d) ∧ Hid (Below w1.heap.size w1 wr)) (fun _ i _ => n - (intOf i).toNat)
  case atStart => exact ⟨0, 0, Nat.zero_le _, rfl, rfl, rfl, Below.refl _ _⟩
  case round =>
    obtain ⟨k, m, hk, rfl, rfl, hm, HB⟩ := hrel
    by_cases hlt : k < n
    · obtain ⟨b, o, x, rfl, hb, hx, hld⟩ := HRD.out.part hlt
      obtain ⟨c0, c1, c2, c3, c4, c5, c6, c7, c8, c9, c10⟩ := hld wr HB.out
      have hnx := Lib.hid (free_next hx d)
      have hxi := HI.out x (List.mem_of_getElem? hx)
      have hmm := free_le (l := l.take k) (d := d) (fun p hp => HI.out p (List.mem_of_mem_take hp))
      rw [← hm.out] at hmm
      have zw : IntKind.i64.wrap (x.i + 1) = x.i + 1 := wrap_is (by omega)
      obtain ⟨w2, hw2⟩ : ∃ w2, w2 = wr.alloc (partCells x) := ⟨_, rfl⟩
      obtain ⟨gx, hgx⟩ : ∃ gx, gx = wr.heap.size := ⟨_, rfl⟩
      have bb : Below wr.heap.size wr w2 := by rw [hw2]; exact below_new (Below.refl _ _) _
      have hnew : w2.heap[gx]? = some (partCells x) := by rw [hw2, hgx]; exact heap_alloc_new _ _
      obtain ⟨e0, e1, e2, e3, e4, e5, e6, e7, e8, e9, e10⟩ := part_row hnew
      have HB2 := Lib.hid (below_then HB.out bb)
      obtain ⟨d0, d1⟩ := dot_rowT (row_below R3.out HB2.out)
      obtain ⟨q, hq⟩ : ∃ q, Hid (decide (x.d = d) = q) := ⟨_, rfl⟩
      have EQ : ∀ W, (Op.equalIn 10000 40 (.agg #[.int .i64 x.d.d, .int .i64 x.d.s]) (.agg #[.int .i64 d.d, .int .i64 d.s])).run Try.prog W = .ok q W := fun W => by rw [← hq.out]; exact run_equalIn_dotF 9998 x.d d W
      clear hld hx bb hnew HB
      replace hw2 := Lib.hid hw2; replace hgx := Lib.hid hgx
      have HX := Lib.hid hxi; have HM := Lib.hid hmm
      clear hxi hmm
      go_upto_region 5 with fail
      rw [show wr.alloc (partCells x) = w2 from hw2.out.symm, show wr.heap.size = gx from hgx.out.symm]
      clear hw2 hgx c0 c1 c2 c3 c4 c5 c6 c7 c8 c9 c10
      cases q with
      | false =>
        have hm2 : Hid (m = freeT (l.take (k + 1)) d) := by show _ = _; rw [hnx.out, if_neg (of_decide_eq_false hq.out)]; exact hm.out
        clear zw
        go_wp2_with fail
        exact ⟨⟨k + 1, m, by omega, by go_num, rfl, hm2, HB2⟩, by simp [intOf]; omega⟩
      | true =>
        have hm2 : Hid (max m (x.i + 1) = freeT (l.take (k + 1)) d) := by show _ = _; rw [hnx.out, if_pos (of_decide_eq_true hq.out), hm.out]
        go_wp2_with fail
        all_goals
          exact ⟨⟨k + 1, _, by omega, by go_num, rfl, hm2, HB2⟩, by simp [intOf]; omega⟩
    · have hm2 : Hid (m = F) := by show _ = _; rw [← hF.out, hm.out, List.take_of_length_le (by have := HL.out; omega)]
      go_wp2_with fail
      go_ret
      exact ⟨ret_int hm2.out, below_then HB1.out HB.out⟩

/-- the closure of mayStand -/
theorem standC_any (x : P11) (N : N3) (g : Nat) (w : World) (h : w.heap[g]? = some (nameRow N)) :
    Calls Try.prog 54 #[x.agg, .pointer (some ⟨g, 0, none⟩)] w fun e w' => e = .returned (.bool (decide (nm x = N))) ∧ Below w.heap.size w w' := by
  obtain ⟨w1, hw1⟩ : ∃ w1, w1 = w.alloc (partCells x) := ⟨_, rfl⟩
  obtain ⟨gx, hgx⟩ : ∃ gx, gx = w.heap.size := ⟨_, rfl⟩
  have hb1 : Below w.heap.size w w1 := by rw [hw1]; exact below_new (Below.refl _ _) _
  have hnew : w1.heap[gx]? = some (partCells x) := by rw [hw1, hgx]; exact heap_alloc_new _ _
  have hN1 := row_below h hb1
  obtain ⟨q, hq⟩ : ∃ q, Hid (decide (nm x = N) = q) := ⟨_, rfl⟩
  rw [hq.out]
  obtain ⟨M, hM⟩ : ∃ M, Hid (nm x = M) := ⟨_, rfl⟩
  have PN : Hid (∀ W, Calls Try.prog 28 #[x.agg] W fun e w' => e = .returned M.agg ∧ w' = (W.alloc (partCells x)).alloc (nameRow M)) := fun W => by rw [← hM.out]; exact nameOf_is x W
  have EQ : ∀ W, (Op.equalIn 10000 54 (.agg #[.int .i64 M.d.d, .int .i64 M.d.s, .int .i64 M.i]) (.agg #[.int .i64 N.d.d, .int .i64 N.d.s, .int .i64 N.i])).run Try.prog W = .ok q W := fun W => by
    have := run_equalIn_nameF 9997 M N W
    rw [show decide (M = N) = q by rw [← hM.out]; exact hq.out] at this
    exact this
  have K : Hid (∀ W, Below w1.heap.size w1 W → W.cell? ⟨gx, 0, none⟩ = some (.int .i64 x.v.k) ∧ W.cell? ⟨gx, 1, none⟩ = some (.int .i64 x.v.n) ∧ W.cell? ⟨gx, 2, none⟩ = some (.string x.v.s) ∧ W.cell? ⟨gx, 3, none⟩ = some (.int .i64 x.d.d) ∧ W.cell? ⟨gx, 4, none⟩ = some (.int .i64 x.d.s) ∧ W.cell? ⟨gx, 5, none⟩ = some (.int .i64 x.i) ∧ W.cell? ⟨gx, 6, none⟩ = some (.int .i64 x.t) ∧ W.cell? ⟨gx, 7, none⟩ = some (.int .i64 x.a.d) ∧ W.cell? ⟨gx, 8, none⟩ = some (.int .i64 x.a.s) ∧ W.cell? ⟨gx, 9, none⟩ = some (.int .i64 x.j) ∧ W.cell? ⟨gx, 10, none⟩ = some (.bool x.g) ∧ W.cell? ⟨g, 0, none⟩ = some (.int .i64 N.d.d) ∧ W.cell? ⟨g, 1, none⟩ = some (.int .i64 N.d.s) ∧ W.cell? ⟨g, 2, none⟩ = some (.int .i64 N.i)) := fun W hW => by
    obtain ⟨p0, p1, p2, p3, p4, p5, p6, p7, p8, p9, p10⟩ := part_row (row_below hnew hW)
    obtain ⟨q0, q1, q2⟩ := stamp_at (row_below hN1 hW)
    exact ⟨p0, p1, p2, p3, p4, p5, p6, p7, p8, p9, p10, q0, q1, q2⟩
  have HB1 := Lib.hid hb1
  clear h hb1 hnew hN1 hq hM
  go_enter Try.func54, Try.ntmps54
  go_upto_region 1 with fail
  rw [show w.alloc (partCells x) = w1 from hw1.symm, ← hgx]
  clear hw1 hgx
  go_region_held3 (fun W => W.cell? ⟨gx, 0, none⟩ = some (.int .i64 x.v.k) ∧ W.cell? ⟨gx, 1, none⟩ = some (.int .i64 x.v.n) ∧ W.cell? ⟨gx, 2, none⟩ = some (.string x.v.s) ∧ W.cell? ⟨gx, 3, none⟩ = some (.int .i64 x.d.d) ∧ W.cell? ⟨gx, 4, none⟩ = some (.int .i64 x.d.s) ∧ W.cell? ⟨gx, 5, none⟩ = some (.int .i64 x.i) ∧ W.cell? ⟨gx, 6, none⟩ = some (.int .i64 x.t) ∧ W.cell? ⟨gx, 7, none⟩ = some (.int .i64 x.a.d) ∧ W.cell? ⟨gx, 8, none⟩ = some (.int .i64 x.a.s) ∧ W.cell? ⟨gx, 9, none⟩ = some (.int .i64 x.j) ∧ W.cell? ⟨gx, 10, none⟩ = some (.bool x.g) ∧ W.cell? ⟨g, 0, none⟩ = some (.int .i64 N.d.d) ∧ W.cell? ⟨g, 1, none⟩ = some (.int .i64 N.d.s) ∧ W.cell? ⟨g, 2, none⟩ = some (.int .i64 N.i))
    (first
      | (refine K.out _ ?_; (repeat (first | exact Below.refl _ _ | refine below_new ?_ _ | refine Below.drew ?_)); done))
    (first
      | (go_at_call 28; refine (PN.out _).mono ?_; rintro e wx ⟨rfl, rfl⟩))
  have hbz : Below w1.heap.size w1 ((w1.alloc (partCells x)).alloc (nameRow M)).drew := (below_new (below_new (Below.refl _ _) _) _).drew
  generalize ((w1.alloc (partCells x)).alloc (nameRow M)).drew = w2 at hbz ⊢
  have HB2 := Lib.hid (below_then HB1.out hbz)
  clear hbz
  go_wp2_with fail
  go_ret
  exact ⟨rfl, HB2.out⟩

/-- the closure of mayType -/
theorem typeC_any (x : P11) (d : D2) (s : S3) (g h : Nat) (w : World) (h1 : w.heap[g]? = some (dotRowT d)) (h2 : w.heap[h]? = some (stampRow s)) :
    Calls Try.prog 43 #[x.agg, .pointer (some ⟨g, 0, none⟩), .pointer (some ⟨h, 0, none⟩)] w fun e w' => e = .returned (.bool (decide (x.d = d) && !(x.t == s.t))) ∧ Below w.heap.size w w' := by
  obtain ⟨w1, hw1⟩ : ∃ w1, w1 = w.alloc (partCells x) := ⟨_, rfl⟩
  obtain ⟨gx, hgx⟩ : ∃ gx, gx = w.heap.size := ⟨_, rfl⟩
  have hb1 : Below w.heap.size w w1 := by rw [hw1]; exact below_new (Below.refl _ _) _
  have hnew : w1.heap[gx]? = some (partCells x) := by rw [hw1, hgx]; exact heap_alloc_new _ _
  obtain ⟨p0, p1, p2, p3, p4, p5, p6, p7, p8, p9, p10⟩ := part_row hnew
  obtain ⟨d0, d1⟩ := dot_rowT (row_below h1 hb1)
  obtain ⟨s0, s1, s2⟩ := stamp_at (row_below h2 hb1)
  obtain ⟨q, hq⟩ : ∃ q, Hid (decide (x.d = d) = q) := ⟨_, rfl⟩
  rw [hq.out]
  have EQ : ∀ W, (Op.equalIn 10000 40 (.agg #[.int .i64 x.d.d, .int .i64 x.d.s]) (.agg #[.int .i64 d.d, .int .i64 d.s])).run Try.prog W = .ok q W := fun W => by rw [← hq.out]; exact run_equalIn_dotF 9998 x.d d W
  have HB1 := Lib.hid hb1
  clear h1 h2 hb1 hnew hq
  go_enter Try.func43, Try.ntmps43
  go_upto_region 1 with fail
  rw [show w.alloc (partCells x) = w1 from hw1.symm, ← hgx]
  clear hw1 hgx
  cases q with
  | false =>
    go_wp2_with fail
    go_ret
    exact ⟨rfl, HB1.out⟩
  | true =>
    go_wp2_with fail
    go_ret
    exact ⟨ret_bool (by simp [bne]), HB1.out⟩
end Go.Proofs.Ytlgpijdemfccaaa

namespace Go.Proofs.Ytlgpijdemfccaaa
set_option maxRecDepth 100000
open Go.RowKit

theorem idxT_cases (p : P11 → Bool) (l : List P11) : (idxT p l = -1 ∧ l.find? p = none) ∨ ∃ (k : Nat) (q : P11), idxT p l = (k : Nat) ∧ l[k]? = some q ∧ l.find? p = some q ∧ p q = true := by
  cases h : l.find? p with
  | none =>
    refine .inl ⟨idxT_miss fun y hy => ?_, rfl⟩
    have := List.find?_eq_none.1 h y hy
    simpa using this
  | some q =>
    obtain ⟨hq, xa, xb, e, hno⟩ := List.find?_eq_some_iff_append.1 h
    refine .inr ⟨xa.length, q, ?_, ?_, rfl, hq⟩
    · refine idxT_hit ?_ (by rw [e]; simp) hq
      intro y hy
      rw [e, List.take_left] at hy
      simpa using hno y hy
    · rw [e]; simp
/-- why what who writes may not stand behind a name -/
def standT (l : List P11) (who : S3) (N : N3) : Int :=
  if N = zN then 0 else match l.find? (fun p => decide (nm p = N)) with
    | none => 4
    | some q => if stP q = who ∨ lessS (stP q) who = true then 0 else 14

set_option maxHeartbeats 6400000 in
theorem mayStand_any (A : Option Addr) (n c : Nat) (l : List P11) (who : S3) (N : N3) (w : World) (h : RdP w A n c l) :
    Calls Try.prog 46 #[.slice A n c, who.agg, N.agg] w fun e w' => e = .returned (.int .i64 (standT l who N)) ∧ Below w.heap.size w w' := by
  obtain ⟨w1, hw1⟩ : ∃ w1, w1 = (w.alloc (stampRow who)).alloc (nameRow N) := ⟨_, rfl⟩
  obtain ⟨g4, hg4⟩ : ∃ g4, g4 = w.heap.size := ⟨_, rfl⟩
  obtain ⟨g5, hg5⟩ : ∃ g5, g5 = w.heap.size + 1 := ⟨_, rfl⟩
  have hb1 : Below w.heap.size w w1 := by rw [hw1]; exact below_new (below_new (Below.refl _ _) _) _
  have r4 : w1.heap[g4]? = some (stampRow who) := by rw [hw1, hg4]; exact heap_past (by simp) (heap_alloc_new w _)
  have r5 : w1.heap[g5]? = some (nameRow N) := by rw [hw1, hg5]; exact heap_at (by simp)
  have HRD := Lib.hid (h.below hb1); have HL := Lib.hid h.len; have HB1 := Lib.hid hb1; have R4 := Lib.hid r4; have R5 := Lib.hid r5
  have hle := h.le
  obtain ⟨F, hF⟩ : ∃ F, Hid (standT l who N = F) := ⟨_, rfl⟩
  rw [hF.out]
  obtain ⟨n0, n1, n2⟩ := stamp_at r5
  obtain ⟨q, hq⟩ : ∃ q, Hid (decide (N = zN) = q) := ⟨_, rfl⟩
  have EQ : ∀ W, (Op.equalIn 10000 54 (.agg #[.int .i64 N.d.d, .int .i64 N.d.s, .int .i64 N.i]) (.agg #[.int .i64 0, .int .i64 0, .int .i64 0])).run Try.prog W = .ok q W := fun W => by
    have := run_equalIn_nameF 9997 N zN W
    rw [hq.out] at this; exact this
  replace hw1 := Lib.hid hw1
  clear h hb1 r4 r5
  go_enter Try.func46, Try.ntmps46
  go_upto_region 1 with fail
  rw [show (w.alloc (stampRow who)).alloc (nameRow N) = w1 from hw1.out.symm, show w.heap.size + 1 = g5 from hg5.symm, ← hg4]
  clear hw1
  replace hg4 := Lib.hid hg4; replace hg5 := Lib.hid hg5
  cases q with
  | true =>
    have hF2 : Hid (0 = F) := by show _ = _; rw [← hF.out, standT, if_pos (of_decide_eq_true hq.out)]
    go_wp2_with fail
    go_ret
    exact ⟨ret_int hF2.out, HB1.out⟩
  | false =>
    obtain ⟨R, hR, IX⟩ : ∃ R, Hid (idxT (fun p => decide (nm p = N)) l = R) ∧ Hid (Calls Try.prog 53 #[.slice A n c, .func (.func 54) #[] #[.pointer (some ⟨g5, 0, none⟩)]] w1 fun e w' => e = .returned (.int .i64 R) ∧ Below w1.heap.size w1 w') :=
      ⟨_, rfl, indexT1_any 54 _ _ A n c l w1 (enters_of Try.func54 (by kernel_rfl) rfl) HRD.out (fun W hW x => standC_any x N g5 W (row_below R5.out hW))⟩
    have hN0 : Hid (¬ N = zN) := by show ¬ N = zN; exact of_decide_eq_false hq.out
    go_wp2_with fail
    refine IX.out.mono ?_
    rintro e w2 ⟨rfl, b2⟩
    have HB2 := Lib.hid (below_then HB1.out b2)
    have HRD2 := Lib.hid (HRD.out.below b2)
    have R42 := Lib.hid (row_below R4.out b2)
    clear IX b2 n0 n1 n2 EQ HRD R4 R5
    rcases idxT_cases (fun p => decide (nm p = N)) l with ⟨h1, h2⟩ | ⟨k, x, h1, h2, h3, _⟩
    · obtain rfl : R = -1 := hR.out.symm.trans h1
      have hF2 : Hid (4 = F) := by show _ = _; rw [← hF.out, standT, if_neg hN0.out, h2]
      clear h1 h2
      go_wp2_with fail
      go_ret
      exact ⟨ret_int hF2.out, HB2.out⟩
    · obtain rfl : R = (k : Int) := hR.out.symm.trans h1
      have hkn : k < n := by have := (List.getElem?_eq_some_iff.1 h2).1; have := HL.out; omega
      obtain ⟨b, o, x', rfl, hb, hx', hld⟩ := HRD2.out.part hkn
      rw [h2] at hx'
      injection hx' with hx'
      subst hx'
      obtain ⟨c0, c1, c2, c3, c4, c5, c6, c7, c8, c9, c10⟩ := hld w2 (Below.refl _ _)
      have z1 : (0 : Int) ≤ (k : Int) := by omega
      have z2 : (k : Int) < (n : Int) := by omega
      have z3 : ¬ ((k : Int) < 0) := by omega
      obtain ⟨sx, hsx, ST⟩ : ∃ sx, Hid (stP x = sx) ∧ Hid (Calls Try.prog 47 #[x.agg] w2 fun e w' => e = .returned sx.agg ∧ Grown w2 w') := ⟨_, rfl, stampOf_any x w2⟩
      obtain ⟨qs, hqs⟩ : ∃ qs, Hid (decide (sx = who) = qs) := ⟨_, rfl⟩
      have EQS : ∀ W, (Op.equalIn 10000 37 (.agg #[.int .i64 sx.t, .int .i64 sx.d, .int .i64 sx.q]) (.agg #[.int .i64 who.t, .int .i64 who.d, .int .i64 who.q])).run Try.prog W = .ok qs W := fun W => by rw [← hqs.out]; exact run_equalIn_stamp _ _ _ _ _ _ W
      obtain ⟨rl, hrl, LS⟩ : ∃ rl, Hid (lessS sx who = rl) ∧ Hid (∀ W, Calls Try.prog 48 #[sx.agg, who.agg] W fun e w' => e = .returned (.bool rl) ∧ Grown W w') := ⟨_, rfl, fun W => clkLessG_any _ _ W⟩
      have hF2 : Hid ((if qs = true then 0 else if rl = true then 0 else 14) = F) := by
        show _ = _
        rw [← hF.out, standT, if_neg hN0.out, h3]
        show _ = if stP x = who ∨ lessS (stP x) who = true then (0 : Int) else 14
        rw [hsx.out, hrl.out, ← hqs.out]
        by_cases e1 : sx = who
        · rw [if_pos (decide_eq_true e1), if_pos (.inl e1)]
        · rw [if_neg (by simpa using e1)]
          cases rl with
          | true => rw [if_pos rfl, if_pos (.inr rfl)]
          | false => rw [if_neg (by simp), if_neg (by simpa using e1)]
      clear hld h1 h2 h3 hb hqs hrl hsx
      go_wp2_with fail
      refine ST.out.mono ?_
      rintro e w3 ⟨rfl, g3⟩
      obtain ⟨w4, hw4⟩ : ∃ w4, w4 = w3.alloc (stampRow sx) := ⟨_, rfl⟩
      obtain ⟨g8, hg8⟩ : ∃ g8, g8 = w3.heap.size := ⟨_, rfl⟩
      have b4 : Below w3.heap.size w3 w4 := by rw [hw4]; exact below_new (Below.refl _ _) _
      have r8 : w4.heap[g8]? = some (stampRow sx) := by rw [hw4, hg8]; exact heap_alloc_new w3 _
      have HB4 := Lib.hid (below_then (below_then HB2.out g3.below) b4)
      obtain ⟨s0, s1, s2⟩ := stamp_at r8
      obtain ⟨t0, t1, t2⟩ := stamp_at (row_below (row_below R42.out g3.below) b4)
      clear ST g3 b4 r8 c0 c1 c2 c3 c4 c5 c6 c7 c8 c9 c10
      replace hw4 := Lib.hid hw4; replace hg8 := Lib.hid hg8
      go_upto_region 7 with fail
      rw [show w3.alloc (stampRow sx) = w4 from hw4.out.symm, show w3.heap.size = g8 from hg8.out.symm]
      clear hw4 hg8
      cases qs with
      | true =>
        have hF3 : Hid (0 = F) := hF2.out
        go_wp2_with fail
        go_ret
        exact ⟨ret_int hF3.out, HB4.out⟩
      | false =>
        go_wp2_with fail
        refine (LS.out _).mono ?_
        rintro e w5 ⟨rfl, g5'⟩
        have HB5 := Lib.hid (below_then HB4.out g5'.below)
        clear LS g5'
        cases rl with
        | true =>
          have hF3 : Hid (0 = F) := hF2.out
          go_wp2_with fail
          go_ret
          exact ⟨ret_int hF3.out, HB5.out⟩
        | false =>
          have hF3 : Hid (14 = F) := hF2.out
          go_wp2_with fail
          go_ret
          exact ⟨ret_int hF3.out, HB5.out⟩

def dotS (who : S3) : D2 := ⟨who.d, who.q⟩
def clashT (l : List P11) (who : S3) : Bool := l.any fun p => decide (p.d = dotS who) && !(p.t == who.t)
/-- why bytes may not be put behind a name -/
def mayT (k : Int) (v : V3) (l : List P11) (sl : Nat) (who : S3) (N : N3) : Int :=
  if rightT10 k v l = 0 then
    (if rightSt who = true ∧ clashT l who = false then
      (if 200 < sl ∨ 2000 < l.length + sl ∨ 2000 < freeT l (dotS who) + sl then 2 else standT l who N)
    else 1)
  else rightT10 k v l

theorem mayT_3 {k : Int} {v : V3} {l : List P11} {sl : Nat} {who : S3} {N : N3} (h1 : rightT10 k v l = 0) (h2 : rightSt who = true) (h3 : clashT l who = false) :
    mayT k v l sl who N = if 200 < sl ∨ 2000 < l.length + sl ∨ 2000 < freeT l (dotS who) + sl then 2 else standT l who N := by
  rw [mayT, if_pos h1, if_pos ⟨h2, h3⟩]

set_option maxHeartbeats 6400000 in
theorem mayType_any (k : Int) (v : V3) (A : Option Addr) (n c : Nat) (l : List P11) (s : ByteArray) (who : S3) (N : N3) (w : World) (h : RdP w A n c l) (hn : n ≤ 4294967000) (hs : s.size ≤ 140737488355328) :
    Calls Try.prog 29 #[cellV k v (.slice A n c), .string s, who.agg, N.agg] w fun e w' => e = .returned (.int .i64 (mayT k v l s.size who N)) ∧ Below w.heap.size w w' := by
  obtain ⟨w1, hw1⟩ : ∃ w1, w1 = ((w.alloc (cellRow k v (.slice A n c))).alloc (stampRow who)).alloc (nameRow N) := ⟨_, rfl⟩
  obtain ⟨g4, hg4⟩ : ∃ g4, g4 = w.heap.size := ⟨_, rfl⟩
  obtain ⟨g6, hg6⟩ : ∃ g6, g6 = w.heap.size + 1 := ⟨_, rfl⟩
  obtain ⟨g7, hg7⟩ : ∃ g7, g7 = w.heap.size + 1 + 1 := ⟨_, rfl⟩
  have hb1 : Below w.heap.size w w1 := by rw [hw1]; exact below_new (below_new (below_new (Below.refl _ _) _) _) _
  have r4 : w1.heap[g4]? = some (cellRow k v (.slice A n c)) := by rw [hw1, hg4]; exact heap_past (by simp; omega) (heap_past (by simp) (heap_alloc_new w _))
  have r6 : w1.heap[g6]? = some (stampRow who) := by rw [hw1, hg6]; exact heap_past (by simp) (heap_at (by simp))
  have r7 : w1.heap[g7]? = some (nameRow N) := by rw [hw1, hg7]; exact heap_at (by simp)
  have HRD := Lib.hid (h.below hb1); have HL := Lib.hid h.len; have HB1 := Lib.hid hb1; have R4 := Lib.hid r4; have R6 := Lib.hid r6; have R7 := Lib.hid r7
  have hle := h.le
  have HN := Lib.hid hn
  obtain ⟨F, hF⟩ : ∃ F, Hid (mayT k v l s.size who N = F) := ⟨_, rfl⟩
  rw [hF.out]
  obtain ⟨c0, c1, c2, c3, c4⟩ := cell_row5 r4
  obtain ⟨r, hr, RT⟩ : ∃ r, Hid (rightT10 k v l = r) ∧ Hid (Calls Try.prog 8 #[cellV k v (.slice A n c)] w1 fun e w' => e = .returned (.int .i64 r) ∧ Below w1.heap.size w1 w') := ⟨_, rfl, rightT_any k v A n c l w1 HRD.out hn⟩
  replace hw1 := Lib.hid hw1
  clear h hb1 r4 r6 r7 hn
  go_enter Try.func29, Try.ntmps29
  go_upto_region 1 with fail
  rw [show ((w.alloc (cellRow k v (.slice A n c))).alloc (stampRow who)).alloc (nameRow N) = w1 from hw1.out.symm, show w.heap.size + 1 + 1 = g7 from hg7.symm, show w.heap.size + 1 = g6 from hg6.symm, ← hg4]
  clear hw1
  replace hg4 := Lib.hid hg4; replace hg6 := Lib.hid hg6; replace hg7 := Lib.hid hg7
  go_wp2_with fail
  refine RT.out.mono ?_
  rintro e w2 ⟨rfl, b2⟩
  have HB2 := Lib.hid (below_then HB1.out b2)
  have HRD2 := Lib.hid (HRD.out.below b2)
  have R42 := Lib.hid (row_below R4.out b2); have R62 := Lib.hid (row_below R6.out b2); have R72 := Lib.hid (row_below R7.out b2)
  clear RT b2 c0 c1 c2 c3 c4 HRD R4 R6 R7
  by_cases h0 : r = 0
  rotate_left
  · have e1 : (r == 0) = false := by simpa using h0
    have hF2 : Hid (r = F) := by show _ = _; rw [← hF.out, mayT, hr.out, if_neg h0]
    clear h0
    go_wp2_with fail
    go_ret
    exact ⟨ret_int hF2.out, HB2.out⟩
  obtain rfl := h0
  obtain ⟨c0, c1, c2, c3, c4⟩ := cell_row5 R42.out
  obtain ⟨s0, s1, s2⟩ := stamp_at R62.out
  have hok := rightT10_ok.1 hr.out
  have hform : Hid (∀ p ∈ l, 0 ≤ p.i ∧ p.i < 2000) := fun p hp => ((formedT_iff p).1 (hok.2.2.1.1 p hp)).2.2.1
  have hn2 : Hid (n ≤ 2000) := by have := HL.out; have := hok.2.2.2.1; show _ ≤ _; omega
  obtain ⟨D, hD, DO⟩ : ∃ D, Hid (dotS who = D) ∧ Hid (Calls Try.prog 30 #[who.agg] w2 fun e w' => e = .returned D.agg ∧ Grown w2 w') := ⟨_, rfl, dotOf_any who w2⟩
  clear hok
  go_wp2_with fail
  refine DO.out.mono ?_
  rintro e w3 ⟨rfl, gw3⟩
  obtain ⟨w4, hw4⟩ : ∃ w4, w4 = w3.alloc (dotRowT D) := ⟨_, rfl⟩
  obtain ⟨g10, hg10⟩ : ∃ g10, g10 = w3.heap.size := ⟨_, rfl⟩
  have b4 : Below w2.heap.size w2 w4 := below_then gw3.below (by rw [hw4]; exact below_new (Below.refl _ _) _)
  have r10 : w4.heap[g10]? = some (dotRowT D) := by rw [hw4, hg10]; exact heap_alloc_new w3 _
  have HB4 := Lib.hid (below_then HB2.out b4)
  have HRD4 := Lib.hid (HRD2.out.below b4)
  have R44 := Lib.hid (row_below R42.out b4); have R64 := Lib.hid (row_below R62.out b4); have R74 := Lib.hid (row_below R72.out b4); have R10 := Lib.hid r10
  obtain ⟨rs, hrs, RS⟩ : ∃ rs, Hid (rightSt who = rs) ∧ Hid (∀ W, Calls Try.prog 44 #[who.agg] W fun e w' => e = .returned (.bool rs) ∧ Grown W w') := ⟨_, rfl, fun W => rightStamp_any who W⟩
  clear DO gw3 b4 r10 c0 c1 c2 c3 c4 s0 s1 s2 HRD2 R42 R62 R72
  replace hw4 := Lib.hid hw4; replace hg10 := Lib.hid hg10
  go_upto_region 5 with fail
  rw [show w3.alloc (dotRowT D) = w4 from hw4.out.symm, show w3.heap.size = g10 from hg10.out.symm]
  clear hw4 hg10
  obtain ⟨s0, s1, s2⟩ := stamp_at R64.out
  go_wp2_with fail
  refine (RS.out _).mono ?_
  rintro e w5 ⟨rfl, gw5⟩
  have HB5 := Lib.hid (below_then HB4.out gw5.below)
  have HRD5 := Lib.hid (HRD4.out.below gw5.below)
  have R45 := Lib.hid (row_below R44.out gw5.below); have R65 := Lib.hid (row_below R64.out gw5.below); have R75 := Lib.hid (row_below R74.out gw5.below); have R105 := Lib.hid (row_below R10.out gw5.below)
  clear RS gw5 s0 s1 s2 HRD4 R44 R64 R74 R10
  cases rs with
  | false =>
    have hF2 : Hid (1 = F) := by show _ = _; rw [← hF.out, mayT, if_pos hr.out, if_neg (fun e => by rw [hrs.out] at e; cases e.1)]
    go_wp2_with fail
    go_ret
    exact ⟨ret_int hF2.out, HB5.out⟩
  | true =>
    obtain ⟨c0, c1, c2, c3, c4⟩ := cell_row5 R45.out
    obtain ⟨cl, hcl, CT⟩ : ∃ cl, Hid (clashT l who = cl) ∧ Hid (Calls Try.prog 45 #[.slice A n c, .func (.func 43) #[] #[.pointer (some ⟨g10, 0, none⟩), .pointer (some ⟨g6, 0, none⟩)]] w5 fun e w' => e = .returned (.bool cl) ∧ Below w5.heap.size w5 w') :=
      ⟨_, rfl, by
        have := containsT2_any 43 (.pointer (some ⟨g10, 0, none⟩)) (.pointer (some ⟨g6, 0, none⟩)) (fun p => decide (p.d = D) && !(p.t == who.t)) A n c l w5 (enters_of Try.func43 (by kernel_rfl) rfl) HRD5.out (fun W hW x => typeC_any x D who g10 g6 W (row_below R105.out hW) (row_below R65.out hW))
        rw [← hD.out] at this
        exact this⟩
    go_wp2_with fail
    refine CT.out.mono ?_
    rintro e w6 ⟨rfl, b6⟩
    have HB6 := Lib.hid (below_then HB5.out b6)
    have HRD6 := Lib.hid (HRD5.out.below b6)
    have R46 := Lib.hid (row_below R45.out b6); have R66 := Lib.hid (row_below R65.out b6); have R76 := Lib.hid (row_below R75.out b6); have R106 := Lib.hid (row_below R105.out b6)
    clear CT b6 c0 c1 c2 c3 c4 HRD5 R45 R65 R75 R105
    cases cl with
    | true =>
      have hF2 : Hid (1 = F) := by show _ = _; rw [← hF.out, mayT, if_pos hr.out, if_neg (fun e => by rw [hcl.out] at e; cases e.2)]
      go_wp2_with fail
      go_ret
      exact ⟨ret_int hF2.out, HB6.out⟩
    | false =>
      have hF0 : Hid ((if 200 < s.size ∨ 2000 < n + s.size ∨ 2000 < freeT l D + (s.size : Int) then 2 else standT l who N) = F) := by
        show _ = _
        rw [← hF.out, mayT_3 hr.out hrs.out hcl.out, hD.out, HL.out]
      obtain ⟨c0, c1, c2, c3, c4⟩ := cell_row5 R46.out
      obtain ⟨d0, d1⟩ := dot_rowT R106.out
      by_cases h1 : 200 < s.size
      · have h1i : (200 : Int) < (s.size : Int) := by omega
        have e1 : decide (200 < s.size) = true := decide_eq_true h1
        have e2 : decide ((200 : Int) < (s.size : Int)) = true := decide_eq_true h1i
        have hF2 : Hid (2 = F) := by show _ = _; rw [← hF0.out, if_pos (.inl h1)]
        go_wp2_with fail
        go_ret
        exact ⟨ret_int hF2.out, HB6.out⟩
      have h1i : ¬ ((200 : Int) < (s.size : Int)) := by omega
      have e1 : decide (200 < s.size) = false := decide_eq_false h1
      have e2 : decide ((200 : Int) < (s.size : Int)) = false := decide_eq_false h1i
      have zs : IntKind.i64.wrap ((n : Int) + (s.size : Int)) = (n : Int) + (s.size : Int) := wrap_is (by have := hn2.out; omega)
      by_cases h2 : 2000 < n + s.size
      · have h2i : (2000 : Int) < (n : Int) + (s.size : Int) := by omega
        have e3 : decide ((2000 : Int) < (n : Int) + (s.size : Int)) = true := decide_eq_true h2i
        have e4 : decide (2000 < n + s.size) = true := decide_eq_true h2
        have hF2 : Hid (2 = F) := by show _ = _; rw [← hF0.out, if_pos (.inr (.inl h2))]
        go_wp2_with fail
        go_ret
        exact ⟨ret_int hF2.out, HB6.out⟩
      have h2i : ¬ ((2000 : Int) < (n : Int) + (s.size : Int)) := by omega
      have e3 : decide ((2000 : Int) < (n : Int) + (s.size : Int)) = false := decide_eq_false h2i
      have e4 : decide (2000 < n + s.size) = false := decide_eq_false h2
      have hfl := free_le (l := l) (d := D) hform.out
      obtain ⟨R, hR, FR⟩ : ∃ R, Hid (freeT l D = R) ∧ Hid (Calls Try.prog 31 #[.slice A n c, D.agg] w6 fun e w' => e = .returned (.int .i64 R) ∧ Below w6.heap.size w6 w') := ⟨_, rfl, freeT_any A n c l D w6 HRD6.out hform.out⟩
      rw [hR.out] at hfl hF0
      go_wp2_with fail
      refine FR.out.mono ?_
      rintro e w7 ⟨rfl, b7⟩
      have HB7 := Lib.hid (below_then HB6.out b7)
      have HRD7 := Lib.hid (HRD6.out.below b7)
      have R47 := Lib.hid (row_below R46.out b7); have R67 := Lib.hid (row_below R66.out b7); have R77 := Lib.hid (row_below R76.out b7)
      have ze : IntKind.i64.wrap (R + (s.size : Int)) = R + (s.size : Int) := wrap_is (by omega)
      clear FR b7 c0 c1 c2 c3 c4 d0 d1 R46 R66 R76 R106 HRD6 e1 e2 e3 e4 zs
      by_cases h3 : (2000 : Int) < R + (s.size : Int)
      · have e5 : decide ((2000 : Int) < R + (s.size : Int)) = true := decide_eq_true h3
        have hF2 : Hid (2 = F) := by show _ = _; rw [← hF0.out, if_pos (.inr (.inr h3))]
        go_wp2_with fail
        go_ret
        exact ⟨ret_int hF2.out, HB7.out⟩
      · have e5 : decide ((2000 : Int) < R + (s.size : Int)) = false := decide_eq_false h3
        have hF2 : Hid (standT l who N = F) := by
          show _ = _
          rw [← hF0.out, if_neg]
          rintro (e | e | e)
          · exact h1 e
          · exact h2 e
          · exact h3 e
        obtain ⟨c0, c1, c2, c3, c4⟩ := cell_row5 R47.out
        obtain ⟨s0, s1, s2⟩ := stamp_at R67.out
        obtain ⟨n0, n1, n2⟩ := stamp_at R77.out
        have MS := Lib.hid (mayStand_any A n c l who N w7 HRD7.out)
        rw [hF2.out] at MS
        clear h1 h2 h1i h2i hfl
        go_wp2_with fail
        refine MS.out.mono ?_
        rintro e w8 ⟨rfl, b8⟩
        have HB8 := Lib.hid (below_then HB7.out b8)
        clear MS b8
        go_wp2_with fail
        go_ret
        exact ⟨rfl, HB8.out⟩
end Go.Proofs.Ytlgpijdemfccaaa

