/- Layer 12: Right: the code and the document. -/
import Derived.Test.YtkpkkkmokgmhfaaExpRefW
namespace Go.Proofs.Ytkpkkkmokgmhfaa
set_option maxRecDepth 100000
open Go.RowKit Go.MapKept

theorem shown_take {cs : List C4} {k : Nat} {x : C4} (hx : cs[k]? = some x) : (cs.take (k + 1)).map shownC = (cs.take k).map shownC ++ [shownC x] := by
  rw [List.take_add_one, hx]; simp
set_option maxHeartbeats 12800000 in
theorem right12_any (e : E6) (A : Option Addr) (n c : Nat) (cs : List C4) (w : World) (h : ReadsE w e) (hc : RdC w A n c cs) (hn : n ≤ 4294967296) : Calls Try.prog 19 #[e.agg, .slice A n c] w fun r w' => r = .returned (.int .i64 (rightE12 (typeE e (cs.map shownC)))) ∧ Below w.heap.size w w' := by
  obtain ⟨w1, hw1⟩ : ∃ w1, w1 = (w.alloc (exprBox e)) := ⟨_, rfl⟩
  have HW := Lib.hid hw1
  have R0 : Hid (w1.heap[w.heap.size]? = some (exprBox e)) := by rw [hw1]; exact new_row _ _ rfl
  have HB : Hid (Below w.heap.size w w1) := by rw [hw1]; exact below_new (Below.refl _ _) _
  have SZ : Hid (w1.heap.size = w.heap.size + 1) := by show _ = _; rw [hw1]; simp only [World.size_alloc]
  obtain ⟨p0_0, p0_1, p0_2, p0_3, p0_4, p0_5⟩ := expr_row R0.out
  clear hw1
  obtain ⟨y, hy⟩ : ∃ y, Hid (typeE e (cs.map shownC) = y) := ⟨_, rfl⟩
  rw [hy.out]
  have HR := Lib.hid h
  have HC := Lib.hid hc
  have HL : Hid (cs.length = n) := hc.len
  have hle : n ≤ 9223372036854775807 := hc.le
  have HN := Lib.hid hn
  clear h hc hn
  go_enter Try.func19, Try.ntmps19
  go_upto_region 1 with fail
  rw [show (w.alloc (exprBox e)) = w1 from HW.out.symm]
  clear HW
  go_wp2_with fail
  clear p0_0 p0_1 p0_2 p0_3 p0_4 p0_5
  go_loopw [5, 12] (fun v i wr => ∃ k : Nat, k ≤ n ∧ i = .int .i64 k ∧ Hid (wr.ownsRow w1.heap.size 3 1 v k (vals .i64 ((cs.take k).map shownC))) ∧ Hid (Below w1.heap.size w1 wr) ∧ Hid (w1.heap.size ≤ wr.heap.size)) (fun _ i _ => n - (intOf i).toNat)
  case atStart => exact ⟨0, Nat.zero_le _, rfl, ⟨rfl, .inl ⟨rfl, rfl⟩⟩, Below.refl _ _, Nat.le_refl _⟩
  case round =>
    obtain ⟨k, hk, rfl, hown, KB, hsz⟩ := hrel
    have HBk := Lib.hid (below_then HB.out KB.out)
    by_cases hlt : k < n
    · obtain ⟨b, o, x, rfl, hb, hx, hld⟩ := HC.out.col hlt
      obtain ⟨d0, d1, d2, d3⟩ := hld wr HBk.out
      have HX := Lib.hid hx
      have y1 : (k : Int) < (n : Int) := by omega
      have y0 : (0 : Int) ≤ (k : Int) := by omega
      have hkl : k < 17179869184 := by have := HN.out; omega
      clear hld hb hx
      obtain ⟨w2, hw2⟩ : ∃ w2, w2 = wr.alloc (.cells #[.string x.nm, .int .i64 x.k, .int .i64 x.t, .bool x.z] 42) := ⟨_, rfl⟩
      have HW2 := Lib.hid hw2
      have b2 : Below wr.heap.size wr w2 := by rw [hw2]; exact below_new (Below.refl _ _) _
      have KB2 := Lib.hid (below_then KB.out b2)
      have hown2 := Lib.hid (own_below hown.out b2)
      have hsz2 : Hid (w1.heap.size ≤ w2.heap.size) := Nat.le_trans hsz.out b2.size
      have RX : Hid (w2.heap[wr.heap.size]? = some (.cells #[.string x.nm, .int .i64 x.k, .int .i64 x.t, .bool x.z] 42)) := by rw [hw2]; exact heap_alloc_new _ _
      clear hw2 b2
      go_upto_region 5 with fail
      rw [show wr.alloc (.cells #[.string x.nm, .int .i64 x.k, .int .i64 x.t, .bool x.z] 42) = w2 from HW2.out.symm]
      clear HW2 d0 d1 d2 d3
      generalize wr.heap.size = gx at RX ⊢
      have d0 : w2.cell? ⟨gx, 0, none⟩ = some (.string x.nm) := cell_row RX.out 0
      have d1 : w2.cell? ⟨gx, 1, none⟩ = some (.int .i64 x.k) := cell_row RX.out 1
      have d2 : w2.cell? ⟨gx, 2, none⟩ = some (.int .i64 x.t) := cell_row RX.out 2
      have d3 : w2.cell? ⟨gx, 3, none⟩ = some (.bool x.z) := cell_row RX.out 3
      go_wp2_with fail
      refine (shown_any x _).mono ?_
      rintro r3 w3 ⟨rfl, b3⟩
      have B3 := below_then KB2.out b3
      have hown3 := own_below hown2.out b3
      have hsz3 := Nat.le_trans hsz2.out b3.size
      clear b3 d0 d1 d2 d3
      go_wp2_with (at_builtin; refine wpList_push rfl (.tmp 16) (.tmp 19) 39 rfl 3 Try.underlying39 (.int .i64 0) 8 (by kernel_rfl) rfl (by decide) w1.heap.size _ k (vals .i64 ((cs.take k).map shownC)) (.int .i64 (shownC x)) rfl rfl hown3 rfl hkl B3 hsz3 ?_; intro v3 w5 hown5 B5 hsz5)
      have hown6 : Hid (w5.ownsRow w1.heap.size 3 1 v3 (k + 1) (vals .i64 ((cs.take (k + 1)).map shownC))) := by rw [shown_take HX.out]; simp only [vals, List.map_append, List.map_cons, List.map_nil]; exact hown5
      exact ⟨⟨k + 1, by omega, by go_num, hown6, B5, hsz5⟩, by simp [intOf]; omega⟩
    · obtain rfl : k = n := by omega
      have y1 : ¬ (k : Int) < (k : Int) := by omega
      obtain ⟨B, d, rfl, hrd⟩ := Rd.of_own hown.out
      rw [List.take_of_length_le (by rw [HL.out]; exact Nat.le_refl _)] at hrd
      obtain ⟨p0_0, p0_1, p0_2, p0_3, p0_4, p0_5⟩ := expr_row (row_below R0.out KB.out)
      have C := Lib.hid (type_any e B k d (cs.map shownC) wr (HR.out.keep HBk.out) hrd)
      rw [hy.out] at C
      obtain ⟨yk, ye⟩ := y
      dsimp only at C
      clear hrd hown hsz
      go_wp2_with fail
      refine C.out.mono ?_
      rintro r3 w3 ⟨rfl, b3⟩
      have HB3 := Lib.hid (below_then HBk.out b3)
      clear b3 C
      by_cases h0 : ye = 0
      · subst h0
        by_cases h1 : yk = 2
        · have hr : Hid (rightE12 (yk, 0) = 6) := by show _ = _; rw [rightE12, if_pos rfl, if_pos h1]
          have q0 := beq_yes h1
          clear h1
          go_wp2_with fail
          go_ret
          exact ⟨ret_int hr.out.symm, HB3.out⟩
        · have hr : Hid (rightE12 (yk, 0) = 0) := by show _ = _; rw [rightE12, if_pos rfl, if_neg h1]
          have q0 := beq_no h1
          clear h1
          go_wp2_with fail
          go_ret
          exact ⟨ret_int hr.out.symm, HB3.out⟩
      · have hr : Hid (rightE12 (yk, ye) = ye) := by show _ = _; rw [rightE12, if_neg h0]
        have q0 := beq_no h0
        have q1 : (ye != 0) = true := by simp [bne, q0]
        clear h0
        go_wp2_with fail
        go_ret
        exact ⟨ret_int hr.out.symm, HB3.out⟩

set_option maxHeartbeats 12800000 in
theorem refRight12_any (e : E6) (A : Option Addr) (n c : Nat) (cs : List C4) (w : World) (h : ReadsE w e) (hc : RdC w A n c cs) (hn : n ≤ 4294967296) : Calls Try.prog 20 #[e.agg, .slice A n c] w fun r w' => r = .returned (.int .i64 (rightE12 (typeE e (cs.map shownC)))) ∧ Below w.heap.size w w' := by
  obtain ⟨w1, hw1⟩ : ∃ w1, w1 = (w.alloc (exprBox e)) := ⟨_, rfl⟩
  have HW := Lib.hid hw1
  have R0 : Hid (w1.heap[w.heap.size]? = some (exprBox e)) := by rw [hw1]; exact new_row _ _ rfl
  have HB : Hid (Below w.heap.size w w1) := by rw [hw1]; exact below_new (Below.refl _ _) _
  have SZ : Hid (w1.heap.size = w.heap.size + 1) := by show _ = _; rw [hw1]; simp only [World.size_alloc]
  obtain ⟨p0_0, p0_1, p0_2, p0_3, p0_4, p0_5⟩ := expr_row R0.out
  clear hw1
  obtain ⟨y, hy⟩ : ∃ y, Hid (typeE e (cs.map shownC) = y) := ⟨_, rfl⟩
  rw [hy.out]
  have HR := Lib.hid h
  have HC := Lib.hid hc
  have HL : Hid (cs.length = n) := hc.len
  have hle : n ≤ 9223372036854775807 := hc.le
  have HN := Lib.hid hn
  clear h hc hn
  go_enter Try.func20, Try.ntmps20
  go_upto_region 1 with fail
  rw [show (w.alloc (exprBox e)) = w1 from HW.out.symm]
  clear HW
  go_wp2_with fail
  clear p0_0 p0_1 p0_2 p0_3 p0_4 p0_5
  go_loopw [5, 6] (fun v i wr => ∃ k : Nat, k ≤ n ∧ i = .int .i64 k ∧ Hid (wr.ownsRow w1.heap.size 3 1 v k (vals .i64 ((cs.take k).map shownC))) ∧ Hid (Below w1.heap.size w1 wr) ∧ Hid (w1.heap.size ≤ wr.heap.size)) (fun _ i _ => n - (intOf i).toNat)
  case atStart => exact ⟨0, Nat.zero_le _, rfl, ⟨rfl, .inl ⟨rfl, rfl⟩⟩, Below.refl _ _, Nat.le_refl _⟩
  case round =>
    obtain ⟨k, hk, rfl, hown, KB, hsz⟩ := hrel
    have HBk := Lib.hid (below_then HB.out KB.out)
    by_cases hlt : k < n
    · obtain ⟨b, o, x, rfl, hb, hx, hld⟩ := HC.out.col hlt
      obtain ⟨d0, d1, d2, d3⟩ := hld wr HBk.out
      have HX := Lib.hid hx
      have y1 : (k : Int) < (n : Int) := by omega
      have y0 : (0 : Int) ≤ (k : Int) := by omega
      have hkl : k < 17179869184 := by have := HN.out; omega
      clear hld hb hx
      have KB2 := KB
      have hown2 := hown
      have hsz2 := hsz
      go_wp2_with fail
      refine (refShown_any x _).mono ?_
      rintro r3 w3 ⟨rfl, b3⟩
      have B3 := below_then KB2.out b3
      have hown3 := own_below hown2.out b3
      have hsz3 := Nat.le_trans hsz2.out b3.size
      clear b3 d0 d1 d2 d3
      go_wp2_with (at_builtin; refine wpList_push rfl (.tmp 15) (.tmp 21) 39 rfl 3 Try.underlying39 (.int .i64 0) 8 (by kernel_rfl) rfl (by decide) w1.heap.size _ k (vals .i64 ((cs.take k).map shownC)) (.int .i64 (shownC x)) rfl rfl hown3 rfl hkl B3 hsz3 ?_; intro v3 w5 hown5 B5 hsz5)
      have hown6 : Hid (w5.ownsRow w1.heap.size 3 1 v3 (k + 1) (vals .i64 ((cs.take (k + 1)).map shownC))) := by rw [shown_take HX.out]; simp only [vals, List.map_append, List.map_cons, List.map_nil]; exact hown5
      exact ⟨⟨k + 1, by omega, by go_num, hown6, B5, hsz5⟩, by simp [intOf]; omega⟩
    · obtain rfl : k = n := by omega
      have y1 : ¬ (k : Int) < (k : Int) := by omega
      obtain ⟨B, d, rfl, hrd⟩ := Rd.of_own hown.out
      rw [List.take_of_length_le (by rw [HL.out]; exact Nat.le_refl _)] at hrd
      obtain ⟨p0_0, p0_1, p0_2, p0_3, p0_4, p0_5⟩ := expr_row (row_below R0.out KB.out)
      have C := Lib.hid (refType_any e B k d (cs.map shownC) wr (HR.out.keep HBk.out) hrd)
      rw [hy.out] at C
      obtain ⟨yk, ye⟩ := y
      dsimp only at C
      clear hrd hown hsz
      go_wp2_with fail
      refine C.out.mono ?_
      rintro r3 w3 ⟨rfl, b3⟩
      have HB3 := Lib.hid (below_then HBk.out b3)
      clear b3 C
      by_cases h0 : ye = 0
      · subst h0
        by_cases h1 : yk = 2
        · have hr : Hid (rightE12 (yk, 0) = 6) := by show _ = _; rw [rightE12, if_pos rfl, if_pos h1]
          have q0 := beq_yes h1
          clear h1
          go_wp2_with fail
          go_ret
          exact ⟨ret_int hr.out.symm, HB3.out⟩
        · have hr : Hid (rightE12 (yk, 0) = 0) := by show _ = _; rw [rightE12, if_pos rfl, if_neg h1]
          have q0 := beq_no h1
          clear h1
          go_wp2_with fail
          go_ret
          exact ⟨ret_int hr.out.symm, HB3.out⟩
      · have hr : Hid (rightE12 (yk, ye) = ye) := by show _ = _; rw [rightE12, if_neg h0]
        have q0 := beq_no h0
        have q1 : (ye != 0) = true := by simp [bne, q0]
        clear h0
        go_wp2_with fail
        go_ret
        exact ⟨ret_int hr.out.symm, HB3.out⟩
end Go.Proofs.Ytkpkkkmokgmhfaa
