/- Layer 9: what the laws call beside the program: few, at. -/
import Derived.Test.YtomdbjmbkfdcmaaMbMulRef
import Derived.Test.YtomdbjmbkfdcmaaMbMul
namespace Go.Proofs.Ytomdbjmbkfdcmaa
set_option maxRecDepth 100000
open Go.RowKit

theorem few9_any (k : Int) (v : V3) (A : Option Addr) (n c : Nat) (w : World) :
    Calls Try.prog 17 #[cellV k v (.slice A n c)] w fun e w' => e = .returned (.bool (decide (n ≤ 60))) ∧ Below w.heap.size w w' := by
  obtain ⟨c0, c1, c2, c3, c4⟩ := cell_row5 (heap_alloc_new w (cellRow k v (.slice A n c)))
  have HB := Lib.hid (below_new (Below.refl w.heap.size w) (cellRow k v (.slice A n c)))
  go_enter Try.func17, Try.ntmps17
  go_wp2_with fail
  refine (refFew_any _ _ _ _ _ _).mono ?_
  rintro e w2 ⟨rfl, b2⟩
  have HZ := Lib.hid (below_then HB.out b2)
  clear HB b2 c0 c1 c2 c3 c4
  go_wp2
  go_ret
  exact ⟨rfl, HZ.out⟩

set_option maxHeartbeats 3200000 in
theorem at9_any (ka : Int) (va : V3) (A : Option Addr) (n c : Nat) (l : List P11) (z : Int) (w : World) (h : RdP w A n c l) (hn : n ≤ 4294967000) :
    Calls Try.prog 25 #[cellV ka va (.slice A n c), .int .i64 z] w fun e w' =>
      ∃ A' m c', e = .returned (.slice A' m c') ∧ RdP w' A' m c' (l.filter fun p => decide (p.v.n = z)) ∧ Below w.heap.size w w' := by
  obtain ⟨p, hp⟩ : ∃ p : P11 → Bool, p = fun q => decide (q.v.n = z) := ⟨_, rfl⟩
  rw [← hp]
  have h1 := heap_alloc_new w (cellRow ka va (.slice A n c))
  have hb1 := below_new (Below.refl w.heap.size w) (cellRow ka va (.slice A n c))
  have hl := h.len
  have HRD := Lib.hid (h.below hb1); have HL := Lib.hid hl; have HP := Lib.hid hp
  obtain ⟨c0, c1, c2, c3, c4⟩ := cell_row5 h1
  have hs1 : w.heap.size ≤ (w.alloc (cellRow ka va (.slice A n c))).heap.size := by simp
  clear h h1 hl hp
  go_enter Try.func25, Try.ntmps25
  go_wp2_with fail
  generalize (w.alloc (Obj.cells #[Value.int .i64 ka, .int .i64 va.k, .int .i64 va.n, .string va.s, .slice A n c] 26)) = w1 at HRD hb1 c0 c1 c2 c3 c4 hs1 ⊢
  clear c0 c1 c2 c3 c4
  have HB1 := Lib.hid hb1; have HS1 := Lib.hid hs1
  clear hb1 hs1
  go_loopw [5, 11] (fun v i wr => ∃ (k : Nat) (done : List P11), k ≤ n ∧ i = .int .i64 k ∧ Hid (done = (l.take k).filter p) ∧ wr.ownsRow w1.heap.size 30 11 v done.length (done.flatMap P11.cells) ∧ Below w1.heap.size w1 wr ∧ w1.heap.size ≤ wr.heap.size) (fun _ i _ => n - (intOf i).toNat)
  case atStart => exact ⟨0, [], Nat.zero_le _, rfl, by show _ = _; simp, ⟨rfl, .inl ⟨rfl, rfl⟩⟩, Below.refl _ _, Nat.le_refl _⟩
  case round =>
    obtain ⟨k, done, hk, rfl, hd, hown, hbel, hsz⟩ := hrel
    by_cases hlt : k < n
    · obtain ⟨b, o, x, rfl, hb, hx, hld⟩ := HRD.out.part hlt
      obtain ⟨e0, e1, e2, e3, e4, e5, e6, e7, e8, e9, e10⟩ := hld _ hbel
      have hstep := Lib.hid (filter_step (p := p) hx)
      have hpx : Hid (p x = decide (x.v.n = z)) := by show _ = _; rw [HP.out]
      obtain ⟨w2, hw2⟩ : ∃ w2, w2 = wr.alloc (partCells x) := ⟨_, rfl⟩
      have hnew : w2.heap[wr.heap.size]? = some (partCells x) := by rw [hw2]; exact heap_alloc_new _ _
      have hown2 := hown.alloc (partCells x)
      have B2 := below_new hbel (partCells x)
      have hsz2 : w1.heap.size ≤ w2.heap.size := by rw [hw2]; simp; omega
      rw [← hw2] at hown2 B2
      have HNEW := Lib.hid hnew
      have HO2 := Lib.hid hown2; have HB2 := Lib.hid B2; have HS2 := Lib.hid hsz2; have HW2 := Lib.hid hw2
      clear hld hown hx hw2 hnew hown2 B2 hsz2
      have hdl : done.length < 4294967296 := by
        have h1 := HL.out
        have h2 : done.length ≤ k := by rw [hd.out]; exact Nat.le_trans (List.length_filter_le _ _) (by rw [List.length_take]; omega)
        omega
      go_upto_region 5 with fail
      rw [show wr.alloc (Obj.cells #[Value.int .i64 x.v.k, .int .i64 x.v.n, .string x.v.s, .int .i64 x.d.d, .int .i64 x.d.s, .int .i64 x.i, .int .i64 x.t, .int .i64 x.a.d, .int .i64 x.a.s, .int .i64 x.j, .bool x.g] 30) = w2 from HW2.out.symm]
      clear HW2 e0 e1 e2 e3 e4 e5 e6 e7 e8 e9 e10
      generalize wr.heap.size = gQ at HNEW ⊢
      obtain ⟨n0, n1, n2, n3, n4, n5, n6, n7, n8, n9, n10⟩ := part_row HNEW.out
      have hown3 := HO2.out
      have B3 := HB2.out
      have hsz3 := HS2.out
      by_cases hz : x.v.n = z
      · have hzt : decide (x.v.n = z) = true := decide_eq_true hz
        have hzb : (x.v.n == z) = true := by simp [hz]
        have hd2 : Hid (done ++ [x] = (l.take (k + 1)).filter p) := by show _ = _; rw [hstep.out, hpx.out, hd.out, hzt]; rfl
        clear hbel hsz hz
        go_wp2_with (at_builtin; refine wpList_pushP rfl (.tmp 20) (.tmp 22) rfl w1.heap.size _ _ done x w2.heap.size rfl rfl rfl hown3 hdl B3 (by omega) ?_; intro v3 w5 hown5 B5 hsz5)
        exact ⟨⟨k + 1, done ++ [x], by omega, by go_num, hd2, by simpa using hown5, B5, hsz5⟩, by simp [intOf]; omega⟩
      · have hzt : decide (x.v.n = z) = false := decide_eq_false hz
        have hzb : (x.v.n == z) = false := by simp [hz]
        have hd2 : Hid (done = (l.take (k + 1)).filter p) := by show _ = _; rw [hstep.out, hpx.out, hd.out, hzt]; simp
        clear hbel hsz
        go_wp2
        exact ⟨⟨k + 1, done, by omega, by go_num, hd2, hown3, B3, by omega⟩, by simp [intOf]; omega⟩
    · have hfin : Hid (done = l.filter p) := by
        show _ = _
        have h1 := HL.out
        rw [hd.out, List.take_of_length_le (by omega)]
      obtain ⟨A', c', rfl, hrd⟩ := RdG.own_ (enc := P11.cells) (sz := 11) (fun _ => rfl) (by omega) hown
      have HZ := Lib.hid (below_then HB1.out hbel)
      clear hown hbel
      go_wp2
      go_ret
      exact ⟨A', _, c', rfl, by rw [← hfin.out]; exact hrd, HZ.out⟩
end Go.Proofs.Ytomdbjmbkfdcmaa

