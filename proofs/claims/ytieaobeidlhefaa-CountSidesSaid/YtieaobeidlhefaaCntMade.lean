/- Layer 8: numbers that are added one behind the other; answers named ahead. -/
import Derived.Test.YtieaobeidlhefaaCntRef
namespace Go.Proofs.Ytieaobeidlhefaa
set_option maxRecDepth 100000
open Go.RowKit

/-- a counter of a number -/
abbrev cnt5 (s : Int) : C5 := ⟨2, ⟨1, s, noS⟩, none, 0, 0⟩
theorem cnt5_right {s : Int} (h : okC s = true) : (cnt5 s).right = 0 := by rw [C5.right, rightN_cnt, h]; rfl
theorem okC_of {s : Int} (h : -1099511627776 ≤ s ∧ s ≤ 1099511627776) : okC s = true := by simp [okC, h]
theorem cntAdd_is (s m s' : Int) (w : World) (hs : okC s = true) (hm : okC m = true) (h : okC s' = true) (he : s + m = s') :
    Calls Try.prog 36 #[cntV s, .int .i64 m] w fun e w' => e = .returned (.tuple #[cntV s', .int .i64 0]) ∧ Below w.heap.size w w' := by
  have h1 := okC_iff hm
  have := cntAdd_any (cnt5 s) m w (by omega)
  rw [addC, addE, if_pos ⟨cnt5_right hs, hm⟩, if_pos (cnt5_right hs), if_pos hm, show (cnt5 s).v.n + m = s' from he, outC, outE, if_pos h, if_pos h] at this
  exact this
theorem cntShow_is (s : Int) (w : World) (hs : okC s = true) :
    Calls Try.prog 40 #[cntV s] w fun e w' => e = .returned (.agg #[.int .i64 1, .int .i64 s, .string noS]) ∧ Below w.heap.size w w' := by
  have := cntShow_any (cnt5 s) w
  rw [showC, if_pos (cnt5_right hs)] at this
  exact this
theorem cntRight_is (s : Int) (w : World) (hs : okC s = true) :
    Calls Try.prog 38 #[cntV s] w fun e w' => e = .returned (.int .i64 0) ∧ Below w.heap.size w w' := by
  have := cntRight_any 2 ⟨1, s, noS⟩ none 0 0 w
  rw [rightN_cnt, if_pos hs] at this
  exact this
theorem cntMerge_is (a b o s : Int) (w : World) (ha : okC a = true) (hb : okC b = true) (ho : okC o = true) (hs : okC s = true) (he : a + b - o = s) :
    Calls Try.prog 45 #[cntV a, cntV b, cntV o] w fun e w' => e = .returned (.tuple #[cntV s, .int .i64 0]) ∧ Below w.heap.size w w' := by
  have := cntMerge_any (cnt5 a) (cnt5 b) (cnt5 o) w
  have h0 : firstN [cnt5 a, cnt5 b, cnt5 o] = 0 := by rw [first3, if_pos (cnt5_right ha), if_pos (cnt5_right hb)]; exact cnt5_right ho
  rw [mergeC, mergeE, if_pos h0, if_pos h0, show (cnt5 a).v.n + (cnt5 b).v.n - (cnt5 o).v.n = s from he, outC, outE, if_pos hs, if_pos hs] at this
  exact this
theorem same8_refl (s : Int) : same8 (cnt5 s) (cnt5 s) = true := by simp [same8, sameZ]
theorem refSame8_is (s : Int) (w : World) :
    Calls Try.prog 42 #[cntV s, cntV s] w fun e w' => e = .returned (.bool true) ∧ Below w.heap.size w w' := by
  have := refSame8_any (cnt5 s) (cnt5 s) w
  rw [same8_refl] at this
  exact this

/-- numbers of 32 bits come to no more than so much -/
theorem sum_bound : ∀ (l : List Int), (∀ x ∈ l, -2147483648 ≤ x ∧ x ≤ 2147483647) → -(2147483648 * (l.length : Int)) ≤ l.sum ∧ l.sum ≤ 2147483648 * (l.length : Int)
  | [], _ => by simp
  | x :: l, h => by
    have h1 := sum_bound l fun y hy => h y (List.mem_cons_of_mem _ hy)
    have h2 := h x (by simp)
    rw [List.sum_cons, List.length_cons]
    omega

set_option maxHeartbeats 3200000 in
theorem cntMade_any (s : Int) (A : Option Addr) (n c : Nat) (l : List Int) (w : World) (h : Rd w A n c (vals .i32 l)) (hl : ∀ x ∈ l, -2147483648 ≤ x ∧ x ≤ 2147483647) (hn : n ≤ 60) (hs : -274877906944 ≤ s ∧ s ≤ 274877906944) :
    Calls Try.prog 47 #[cntV s, .slice A n c] w fun e w' => e = .returned (.tuple #[cntV (s + l.sum), .bool true]) ∧ Below w.heap.size w w' := by
  have HL : Hid (l.length = n) := by show _ = _; simpa using h.len
  have hok : Hid (∀ k, k ≤ n → okC (s + (l.take k).sum) = true) := by
    intro k hk
    have h1 := sum_bound (l.take k) fun x hx => hl x (List.mem_of_mem_take hx)
    have h2 : (l.take k).length ≤ 60 := by rw [List.length_take]; omega
    exact okC_of (by omega)
  obtain ⟨g, hg⟩ : ∃ g, g = w.heap.size := ⟨_, rfl⟩
  obtain ⟨w1, hw1⟩ : ∃ w1, w1 = (w.alloc (cntRow s)).alloc zeroRow := ⟨_, rfl⟩
  have b1 : Below w.heap.size w w1 := by rw [hw1]; exact below_new (below_new (Below.refl _ _) _) _
  have r1 : w1.heap[g]? = some (cntRow s) := by rw [hw1, hg]; exact row_below (heap_alloc_new _ _) (below_new (Below.refl _ _) _)
  have r2 : w1.heap[g + 1]? = some zeroRow := by
    have := heap_alloc_new (w.alloc (cntRow s)) zeroRow
    rw [World.size_alloc, ← hg, ← hw1] at this; exact this
  have hs1 : w1.heap.size = g + 2 := by rw [hw1, hg]; simp
  obtain ⟨FS, hFS⟩ : ∃ F, Hid (F = s + l.sum) := ⟨_, rfl⟩
  rw [← hFS.out]
  have HRD := Lib.hid h
  have HIN := Lib.hid hl
  have HG := Lib.hid hg; have HW1 := Lib.hid hw1; have HB := Lib.hid b1; have R1 := Lib.hid r1; have R2 := Lib.hid r2; have HS1 := Lib.hid hs1
  have HN := Lib.hid hn
  clear hg hw1 b1 r1 r2 h hl hs1 hs
  go_enter Try.func47, Try.ntmps47
  go_upto_region 1 with fail
  rw [← HG.out]
  rw [show (w.alloc (cntRow s)).alloc (Obj.cells #[Value.int .i64 0, .int .i64 0, .int .i64 0, .string ⟨#[]⟩, .slice none 0 0] 26) = w1 from HW1.out.symm]
  clear HW1
  go_wp2_with fail
  go_loopw [7, 6] (fun v u wr => ∃ (k : Nat) (t : Int), k ≤ n ∧ v = .int .i64 k ∧ u = .bool true ∧ Hid (s + (l.take k).sum = t) ∧ Hid (wr.heap[g]? = some (cntRow t)) ∧ Hid (wr.heap[g + 1]? = some zeroRow) ∧ Hid (Below w.heap.size w wr)) (fun v _ _ => n - (intOf v).toNat)
  case atStart => exact ⟨0, s, Nat.zero_le _, rfl, rfl, by show _ = _; simp, R1, R2, HB⟩
  case round =>
    obtain ⟨k, t, hk, rfl, rfl, ht, K1, K2, KB⟩ := hrel
    obtain ⟨c0, c1, c2, c3, c4⟩ := cell_row5 K1.out
    dsimp only at c0 c1 c2 c3 c4
    by_cases hlt : k < n
    · obtain ⟨b, o, x, rfl, hb, hx, hc⟩ := HRD.out.at_ hlt
      have d0 := (KB.out.cell (p := ⟨b, o + k, none⟩) hb).trans hc
      obtain ⟨y, hy, rfl⟩ : ∃ y, l[k]? = some y ∧ x = .int .i32 y := by
        simp only [vals, List.getElem?_map, Option.map_eq_some_iff] at hx
        obtain ⟨y, h1, h2⟩ := hx
        exact ⟨y, h1, h2.symm⟩
      have hyb := HIN.out y (List.mem_of_getElem? hy)
      obtain ⟨t', ht'⟩ : ∃ t', t + y = t' := ⟨_, rfl⟩
      have hstep : Hid (s + (l.take (k + 1)).sum = t') := by
        show _ = _
        rw [List.take_add_one, hy, ← ht', ← ht.out]
        simp [Int.add_assoc]
      have CA := Lib.hid (fun W => cntAdd_is t y t' W (by rw [← ht.out]; exact hok.out k hk) (okC_of (by omega)) (by rw [← hstep.out]; exact hok.out (k + 1) hlt) ht')
      have hcv : IntKind.i64.wrap y = y := wrap_is (by omega)
      clear hx hc hy ht' hyb
      have hgl : g < wr.heap.size := (Array.getElem?_eq_some_iff.1 K1.out).1
      have hbl : b < wr.heap.size := block_lt_of_cell d0
      have hA : ∀ (b j : Nat) (z : Value), wr.cell? ⟨b, j, none⟩ = some z → (wr.alloc zeroRow).cell? ⟨b, j, none⟩ = some z := fun b j z h => (World.cell?_alloc_lt wr zeroRow ⟨b, j, none⟩ (block_lt_of_cell h)).trans h
      have x0 := hA _ _ _ c0; have x1 := hA _ _ _ c1; have x2 := hA _ _ _ c2; have x3 := hA _ _ _ c3; have x4 := hA _ _ _ c4; have y0 := hA _ _ _ d0
      clear hA
      go_upto_region 5 with fail
      go_region_with (go_at_call 36; refine (CA.out _).mono ?_; rintro e wx ⟨rfl, bb⟩; (try (have hz := row_below (g := wr.heap.size) (o := zeroRow) (by exact heap_alloc_new _ _) bb; obtain ⟨e0, e1, e2, e3, e4⟩ := cell_row5 hz; have f0 := frozen_row hz; dsimp only at e0 e1 e2 e3 e4; have HZ := Lib.hid hz; clear hz)); have BB : Hid (Below wr.heap.size wr wx) := (by first | exact below_then (((Below.refl _ _).alloc (Nat.le_refl _) _).drew) bb | exact below_then ((Below.refl _ _).drew) bb); clear bb)
      all_goals clear CA x0 x1 x2 x3 x4 y0 c0 c1 c2 c3 c4 d0
      all_goals
        first
          | (obtain ⟨wz, hz⟩ : ∃ wz, wz = ((((wx.setCell ⟨wr.heap.size, 0, none⟩ (.int .i64 2)).setCell ⟨wr.heap.size, 1, none⟩ (.int .i64 1)).setCell ⟨wr.heap.size, 2, none⟩ (.int .i64 t')).setCell ⟨wr.heap.size, 3, none⟩ (.string ⟨#[]⟩)).setCell ⟨wr.heap.size, 4, none⟩ (.slice none 0 0) := ⟨_, rfl⟩
             have RN : Hid (wz.heap[wr.heap.size]? = some (cntRow t')) := by rw [hz]; exact set5 HZ.out
             have BZ : Hid (Below wr.heap.size wr wz) := by rw [hz]; exact ((((BB.out.setCell (Nat.le_refl _) _).setCell (Nat.le_refl _) _).setCell (Nat.le_refl _) _).setCell (Nat.le_refl _) _).setCell (Nat.le_refl _) _
             rw [← hz]
             clear hz HZ BB
             generalize wr.heap.size = gn at RN ⊢)
          | (obtain ⟨wz, hz⟩ : ∃ wz, wz = wx.alloc (Obj.cells #[Value.int .i64 2, .int .i64 1, .int .i64 t', .string ⟨#[]⟩, .slice none 0 0] 26) := ⟨_, rfl⟩
             have RN : Hid (wz.heap[wx.heap.size]? = some (cntRow t')) := by rw [hz]; exact heap_alloc_new _ _
             have BZ : Hid (Below wr.heap.size wr wz) := by rw [hz]; exact below_new BB.out _
             rw [← hz]
             clear hz BB
             generalize wx.heap.size = gn at RN ⊢)
        obtain ⟨n0, n1, n2, n3, n4⟩ := cell_row5 RN.out
        dsimp only at n0 n1 n2 n3 n4
        have K3 := row_below K1.out BZ.out
        have K3' := K3
        obtain ⟨m0, m1, m2, m3, m4⟩ := cell_row5 K3
        have f1 := frozen_row K3
        dsimp only at m0 m1 m2 m3 m4
        have K4 := Lib.hid (row_below K2.out BZ.out)
        have K5 := Lib.hid (below_then KB.out BZ.out)
        clear K3
        have KR := Lib.hid K3'
        go_wp2_with fail
        refine ⟨⟨k + 1, t', by omega, by go_num, rfl, hstep, ?_, ?_, ?_⟩, by simp [intOf]; omega⟩
        · show _ = _; exact set5 KR.out
        · show _ = _
          rw [set_other (by omega), set_other (by omega), set_other (by omega), set_other (by omega), set_other (by omega)]; exact K4.out
        · have hgw : w.heap.size ≤ g := by rw [HG.out]; exact Nat.le_refl _
          exact ((((K5.out.setCell hgw _).setCell hgw _).setCell hgw _).setCell hgw _).setCell hgw _
    · have hN : Hid (FS = t) := by
        show _ = _
        rw [hFS.out, ← ht.out, List.take_of_length_le (by rw [HL.out]; omega)]
      obtain ⟨e0, e1, e2, e3, e4⟩ := cell_row5 K2.out
      have f1 := frozen_row K2.out
      dsimp only at e0 e1 e2 e3 e4
      have hgw : Hid (w.heap.size ≤ g + 1) := by rw [HG.out]; exact Nat.le_succ _
      go_wp2_with fail
      refine bodyPost_ret (v := .tuple #[cntV t, .bool true]) (results_row_tmp rfl _ _ (g + 1) 26 _ (0, 0) _ rfl (set5 K2.out) Try.underlying26 rfl (by kernel_rfl) rfl) rfl ?_
      exact ⟨by rw [hN.out], ((((KB.out.setCell hgw.out _).setCell hgw.out _).setCell hgw.out _).setCell hgw.out _).setCell hgw.out _⟩
end Go.Proofs.Ytieaobeidlhefaa
