/- Layer 7: the document's answers: Few, Has, Same, Vals. -/
import Derived.Test.YtomdbjmbkfdcmaaMbJoin
import Derived.BigQuiet
namespace Go.Proofs.Ytomdbjmbkfdcmaa
set_option maxRecDepth 100000
open Go.RowKit Srt

theorem refFew_any (k : Int) (v : V3) (A : Option Addr) (n c : Nat) (w : World) :
    Calls Try.prog 10 #[cellV k v (.slice A n c)] w fun e w' => e = .returned (.bool (decide (n ≤ 60))) ∧ Below w.heap.size w w' := by
  have HB := Lib.hid (below_new (Below.refl w.heap.size w) (cellRow k v (.slice A n c)))
  obtain ⟨c0, c1, c2, c3, c4⟩ := cell_row5 (heap_alloc_new w (cellRow k v (.slice A n c)))
  go_enter Try.func10, Try.ntmps10
  go_wp2
  go_ret
  exact ⟨ret_bool (by simp; omega), HB.out⟩

theorem dotIn_no {l : List P11} {k : Nat} {x : P11} {d : D2} (hx : l[k]? = some x) (h : dotIn (l.take k) d = false) (hd : ¬ x.d = d) : dotIn (l.take (k + 1)) d = false := by
  rw [List.take_add_one, hx]
  simp only [dotIn, List.any_append] at h ⊢
  rw [h]
  simp [hd]

set_option maxHeartbeats 1600000 in
theorem refHas7_any (ka : Int) (v : V3) (A : Option Addr) (n c : Nat) (l : List P11) (d : D2) (w : World) (h : RdP w A n c l) :
    Calls Try.prog 16 #[cellV ka v (.slice A n c), d.agg] w fun e w' => e = .returned (.bool (dotIn l d)) ∧ Below w.heap.size w w' := by
  obtain ⟨w1, hw1⟩ : ∃ w1, w1 = (w.alloc (cellRow ka v (.slice A n c))).alloc (dotRow d) := ⟨_, rfl⟩
  have hb1 : Below w.heap.size w w1 := by rw [hw1]; exact below_new (below_new (Below.refl _ _) _) _
  have h4 : w1.heap[w.heap.size]? = some (cellRow ka v (.slice A n c)) := by rw [hw1, Below.heap_alloc _ _ _ (by simp)]; exact heap_alloc_new _ _
  have h5 : w1.heap[w.heap.size + 1]? = some (dotRow d) := by
    have := heap_alloc_new (w.alloc (cellRow ka v (.slice A n c))) (dotRow d)
    rw [World.size_alloc] at this
    rw [hw1]; exact this
  obtain ⟨c0, c1, c2, c3, c4⟩ := cell_row5 h4
  obtain ⟨d0, d1⟩ := dot_row h5
  have HRD := Lib.hid (h.below hb1)
  have HL := Lib.hid h.len
  have hle := h.le
  have HB := Lib.hid hb1
  clear h hb1 h4 h5
  go_enter Try.func16, Try.ntmps16
  go_wp2_with fail
  rw [← hw1]
  clear hw1
  go_loopw [5] (fun i wr => ∃ k : Nat, k ≤ n ∧ i = .int .i64 k ∧ Hid (dotIn (l.take k) d = false) ∧ Quiet w1 wr) (fun i _ => n - (intOf i).toNat)
  case atStart => exact ⟨0, Nat.zero_le _, rfl, by show _ = _; simp [dotIn], Quiet.refl _⟩
  case round =>
    obtain ⟨k, hk, rfl, hno, hq⟩ := hrel
    obtain ⟨dn, rfl⟩ := hq
    by_cases hlt : k < n
    · obtain ⟨b, o, x, rfl, _, hx, hcu⟩ := HRD.out.part hlt
      obtain ⟨_, _, _, x3, x4, _⟩ := hcu w1 (Below.refl _ _)
      have HX := Lib.hid hx
      have EQ := fun W => run_equalIn_dot x.d.d x.d.s d.d d.s W
      clear hcu hx
      by_cases he : x.d = d
      · have hb : decide ((⟨x.d.d, x.d.s⟩ : D2) = ⟨d.d, d.s⟩) = true := decide_eq_true he
        rw [hb] at EQ
        have HF : Hid (true = dotIn l d) := by
          show _ = _
          symm
          rw [dotIn_iff]
          exact ⟨x, List.mem_of_getElem? HX.out, he⟩
        clear he hb
        go_wp2
        go_quiet (fail)
        go_wp2
        go_ret
        exact ⟨ret_bool HF.out, below_quiet HB.out (by first | exact Quiet.add _ _ | exact Quiet.add2 _ _ _)⟩
      · have hb : decide ((⟨x.d.d, x.d.s⟩ : D2) = ⟨d.d, d.s⟩) = false := decide_eq_false he
        rw [hb] at EQ
        have HN := Lib.hid (dotIn_no HX.out hno.out he)
        clear he hb
        go_wp2
        go_quiet (fail)
        go_wp2
        exact ⟨⟨k + 1, by omega, by go_num, HN, by first | exact Quiet.add _ _ | exact Quiet.add2 _ _ _⟩, by simp [intOf]; omega⟩
    · have HF : Hid (false = dotIn l d) := by
        show _ = _
        have h1 := HL.out
        have h2 := hno.out
        rw [List.take_of_length_le (by omega)] at h2
        exact h2.symm
      go_wp2
      go_ret
      exact ⟨ret_bool HF.out, below_quiet HB.out (Quiet.add _ _)⟩

theorem take_eq_next {α : Type} {a b : List α} {k : Nat} {x : α} (h : a.take k = b.take k) (ha : a[k]? = some x) (hb : b[k]? = some x) : a.take (k + 1) = b.take (k + 1) := by
  rw [List.take_add_one, List.take_add_one, ha, hb, h]

set_option maxHeartbeats 3200000 in
theorem refSame7_any (ka : Int) (va : V3) (A : Option Addr) (n c : Nat) (la : List P11) (kb : Int) (vb : V3) (B : Option Addr) (m d : Nat) (lb : List P11) (w : World) (ha : RdP w A n c la) (hb : RdP w B m d lb) :
    Calls Try.prog 14 #[cellV ka va (.slice A n c), cellV kb vb (.slice B m d)] w fun e w' => e = .returned (.bool (decide (ka = kb) && decide (va = vb) && decide (la = lb))) ∧ Below w.heap.size w w' := by
  obtain ⟨w1, hw1⟩ : ∃ w1, w1 = (w.alloc (cellRow ka va (.slice A n c))).alloc (cellRow kb vb (.slice B m d)) := ⟨_, rfl⟩
  have hb1 : Below w.heap.size w w1 := by rw [hw1]; exact below_new (below_new (Below.refl _ _) _) _
  have h4 : w1.heap[w.heap.size]? = some (cellRow ka va (.slice A n c)) := by rw [hw1, Below.heap_alloc _ _ _ (by simp)]; exact heap_alloc_new _ _
  have h5 : w1.heap[w.heap.size + 1]? = some (cellRow kb vb (.slice B m d)) := by
    have := heap_alloc_new (w.alloc (cellRow ka va (.slice A n c))) (cellRow kb vb (.slice B m d))
    rw [World.size_alloc] at this
    rw [hw1]; exact this
  obtain ⟨c0, c1, c2, c3, c4⟩ := cell_row5 h4
  obtain ⟨d0, d1, d2, d3, d4⟩ := cell_row5 h5
  have HA := Lib.hid (ha.below hb1)
  have HB := Lib.hid (hb.below hb1)
  have HLA := Lib.hid ha.len
  have HLB := Lib.hid hb.len
  have hle := ha.le
  have hle2 := hb.le
  have HB1 := Lib.hid hb1
  have EV : ∀ W, (Op.equalIn 10000 23 (.agg #[.int .i64 va.k, .int .i64 va.n, .string va.s]) (.agg #[.int .i64 vb.k, .int .i64 vb.n, .string vb.s])).run Try.prog W = .ok (decide (va = vb)) W := fun W => run_equalIn_valF 9998 va vb W
  clear ha hb hb1 h4 h5
  by_cases hk : ka = kb
  rotate_left
  · have hkb : (ka == kb) = false := by simpa using hk
    have HF : Hid (false = (decide (ka = kb) && decide (va = vb) && decide (la = lb))) := by show _ = _; simp [hk]
    go_enter Try.func14, Try.ntmps14
    go_wp2
    go_ret
    exact ⟨ret_bool HF.out, by rw [← hw1]; exact HB1.out⟩
  subst hk
  by_cases hv : va = vb
  rotate_left
  · rw [decide_eq_false hv] at EV
    have HF : Hid (false = (decide (ka = ka) && decide (va = vb) && decide (la = lb))) := by show _ = _; simp [hv]
    clear hv
    go_enter Try.func14, Try.ntmps14
    go_wp2
    go_ret
    exact ⟨ret_bool HF.out, by rw [← hw1]; exact HB1.out⟩
  rw [decide_eq_true hv] at EV
  have HR : Hid ((decide (ka = ka) && decide (va = vb) && decide (la = lb)) = decide (la = lb)) := by show _ = _; simp [hv]
  rw [HR.out]
  clear hv HR
  by_cases hnm : n = m
  rotate_left
  · have hnb : ((n : Int) == (m : Int)) = false := by rw [beq_eq_false_iff_ne]; omega
    have HF : Hid (false = decide (la = lb)) := by
      show _ = _
      symm
      refine decide_eq_false fun e => hnm ?_
      rw [← HLA.out, ← HLB.out, e]
    have hnz : ¬ ((n : Int) = (m : Int)) := by omega
    clear hnm
    go_enter Try.func14, Try.ntmps14
    go_wp2
    go_ret
    exact ⟨ret_bool HF.out, by rw [← hw1]; exact HB1.out⟩
  subst hnm
  go_enter Try.func14, Try.ntmps14
  go_wp2_with fail
  rw [← hw1]
  clear hw1 EV
  go_loopw [5] (fun i wr => ∃ k : Nat, k ≤ n ∧ i = .int .i64 k ∧ Hid (la.take k = lb.take k) ∧ Quiet w1 wr) (fun i _ => n - (intOf i).toNat)
  case atStart => exact ⟨0, Nat.zero_le _, rfl, by show _ = _; simp, Quiet.refl _⟩
  case round =>
    obtain ⟨k, hk, rfl, hno, hq⟩ := hrel
    obtain ⟨dn, rfl⟩ := hq
    by_cases hlt : k < n
    · obtain ⟨b, o, x, rfl, _, hx, hcu⟩ := HA.out.part hlt
      obtain ⟨b', o', y, rfl, _, hy, hcv⟩ := HB.out.part hlt
      obtain ⟨x0, x1, x2, x3, x4, x5, x6, x7, x8, x9, x10⟩ := hcu w1 (Below.refl _ _)
      obtain ⟨y0, y1, y2, y3, y4, y5, y6, y7, y8, y9, y10⟩ := hcv w1 (Below.refl _ _)
      have HX := Lib.hid hx; have HY := Lib.hid hy
      have EQ : ∀ W, (Op.equalIn 10000 30 (.agg #[.int .i64 x.v.k, .int .i64 x.v.n, .string x.v.s, .int .i64 x.d.d, .int .i64 x.d.s, .int .i64 x.i, .int .i64 x.t, .int .i64 x.a.d, .int .i64 x.a.s, .int .i64 x.j, .bool x.g]) (.agg #[.int .i64 y.v.k, .int .i64 y.v.n, .string y.v.s, .int .i64 y.d.d, .int .i64 y.d.s, .int .i64 y.i, .int .i64 y.t, .int .i64 y.a.d, .int .i64 y.a.s, .int .i64 y.j, .bool y.g])).run Try.prog W = .ok (decide (x = y)) W := fun W => run_equalIn_part x y W
      clear hcu hx hcv hy
      by_cases he : x = y
      · rw [decide_eq_true he] at EQ
        have HN := Lib.hid (take_eq_next hno.out HX.out (by rw [he]; exact HY.out))
        clear he
        go_wp2
        go_quiet (fail)
        go_wp2
        exact ⟨⟨k + 1, by omega, by go_num, HN, by first | exact Quiet.add _ _ | exact Quiet.add2 _ _ _⟩, by simp [intOf]; omega⟩
      · rw [decide_eq_false he] at EQ
        have HF : Hid (false = decide (la = lb)) := by
          show _ = _
          symm
          refine decide_eq_false fun e => he ?_
          have h1 := HX.out; have h2 := HY.out
          rw [e, h2] at h1
          exact (Option.some.inj h1).symm
        clear he
        go_wp2
        go_quiet (fail)
        go_wp2
        go_ret
        exact ⟨ret_bool HF.out, below_quiet HB1.out (by first | exact Quiet.add _ _ | exact Quiet.add2 _ _ _)⟩
    · have HF : Hid (true = decide (la = lb)) := by
        show _ = _
        symm
        refine decide_eq_true ?_
        have h1 := HLA.out
        have h2 := HLB.out
        have h3 := hno.out
        rwa [List.take_of_length_le (by omega), List.take_of_length_le (by omega)] at h3
      go_wp2
      go_ret
      exact ⟨ret_bool HF.out, below_quiet HB1.out (Quiet.add _ _)⟩
end Go.Proofs.Ytomdbjmbkfdcmaa

