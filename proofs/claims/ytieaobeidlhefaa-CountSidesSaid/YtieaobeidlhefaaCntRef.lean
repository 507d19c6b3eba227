/- Layer 8: the document's answers: a number more, two counters together, are two cells one. -/
import Derived.Test.YtieaobeidlhefaaCntMerge2
namespace Go.Proofs.Ytieaobeidlhefaa
set_option maxRecDepth 100000
open Go.RowKit

/-- a counter in a variable: why it may not be -/
theorem right_of (w : World) (s : Int) : Calls Try.prog 39 #[cntV s] w fun e w' => e = .returned (.int .i64 (if okC s = true then 0 else 20)) ∧ Below w.heap.size w w' := by
  have := refRight8_any 2 ⟨1, s, noS⟩ none 0 0 w
  rw [rightN_cnt] at this
  exact this

set_option maxHeartbeats 3200000 in
theorem refAdd8_any (x : C5) (m : Int) (w : World) :
    Calls Try.prog 37 #[x.val, .int .i64 m] w fun e w' => e = .returned (.tuple #[addC x m, .int .i64 (addE x m)]) ∧ Below w.heap.size w w' := by
  obtain ⟨g, hg⟩ : ∃ g, g = w.heap.size := ⟨_, rfl⟩
  obtain ⟨w1, hw1⟩ : ∃ w1, w1 = (w.alloc (cellRow x.k x.v (.slice x.A x.n x.c))).alloc zeroRow := ⟨_, rfl⟩
  have HW1 := Lib.hid hw1; have HG := Lib.hid hg
  have hat : ∀ (w : World) (o : Obj) (g : Nat), w.heap.size = g → (w.alloc o).heap[g]? = some o := fun w o g h => by subst h; exact heap_alloc_new _ _
  have HB : Hid (Below w.heap.size w w1) := by rw [hw1]; exact below_new (below_new (Below.refl _ _) _) _
  have R0 : Hid (w1.heap[g]? = some (cellRow x.k x.v (.slice x.A x.n x.c))) := by
    show _ = _
    rw [hw1, hg]
    rw [Below.heap_alloc _ _ _ (by simp only [World.size_alloc]; omega)]
    exact hat _ _ _ rfl
  have RR : Hid (w1.heap[g + 1]? = some zeroRow) := by
    show _ = _
    rw [hw1, hg]
    exact hat _ _ _ (by simp only [World.size_alloc])
  have HGW : Hid (w.heap.size ≤ g + 1) := by rw [hg]; exact Nat.le_add_right _ _
  clear hg hw1 hat
  obtain ⟨r, hr⟩ : ∃ r, Hid (x.right = r) := ⟨_, rfl⟩
  have CR := Lib.hid (refRight8_any x.k x.v x.A x.n x.c w1)
  rw [show rightN x.k x.v x.n = r from hr.out] at CR
  obtain ⟨FC, hFC⟩ : ∃ F, Hid (addC x m = F) := ⟨_, rfl⟩
  obtain ⟨FE, hFE⟩ : ∃ F, Hid (addE x m = F) := ⟨_, rfl⟩
  rw [hFC.out, hFE.out]
  obtain ⟨x0a, x0b, x0c, x0d, x0e⟩ := cell_row5 R0.out
  go_enter Try.func37, Try.ntmps37
  go_upto_region 1 with fail
  rw [← HG.out]
  rw [show (w.alloc (cellRow x.k x.v (.slice x.A x.n x.c))).alloc (Obj.cells #[Value.int .i64 0, .int .i64 0, .int .i64 0, .string ⟨#[]⟩, .slice none 0 0] 26) = w1 from HW1.out.symm]
  clear HW1
  go_wp2_with fail
  refine CR.out.mono ?_
  rintro e w2 ⟨rfl, b2⟩
  replace R0 := Lib.hid (row_below R0.out b2)
  replace RR := Lib.hid (row_below RR.out b2)
  replace HB := Lib.hid (below_then HB.out b2)
  obtain ⟨y0a, y0b, y0c, y0d, y0e⟩ := cell_row5 R0.out
  clear b2 CR x0a x0b x0c x0d x0e
  by_cases h0 : r = 0
  · have hx : x.right = 0 := hr.out.trans h0
    by_cases ho : okC m = true
    · have HC0 : Hid (FC = outC (x.v.n + m)) := by show _ = _; rw [← hFC.out, addC, if_pos ⟨hx, ho⟩]
      have HE0 : Hid (FE = outE (x.v.n + m)) := by show _ = _; rw [← hFE.out, addE, if_pos hx, if_pos ho]
      obtain ⟨_, _, _, _, x1, x2⟩ := right_n hx
      obtain ⟨m1, m2⟩ := okC_iff ho
      have hw : IntKind.i64.wrap (x.v.n + m) = x.v.n + m := wrap_is (by omega)
      have z1 : ¬ m < -1099511627776 := by omega
      have z2 : ¬ 1099511627776 < m := by omega
      subst h0
      clear hr hFC hFE hx ho x1 x2 m1 m2
      go_wp2_with fail
      refine (refOf8_any _ _).mono ?_
      rintro e w5 ⟨rfl, b5⟩
      replace RR := Lib.hid (row_below RR.out b5)
      replace HB := Lib.hid (below_then HB.out b5)
      clear b5
      generalize x.v.n + m = s at HC0 HE0 ⊢
      obtain ⟨w6, hw6⟩ : ∃ w6, w6 = w5.alloc (cntRow s) := ⟨_, rfl⟩
      have RN : Hid (w6.heap[w5.heap.size]? = some (cntRow s)) := by rw [hw6]; exact heap_alloc_new _ _
      replace RR : Hid (w6.heap[g + 1]? = some zeroRow) := by rw [hw6]; exact row_below RR.out (below_new (Below.refl _ _) _)
      replace HB : Hid (Below w.heap.size w w6) := by rw [hw6]; exact below_new HB.out _
      have HW6 := Lib.hid hw6
      have CR := Lib.hid (right_of w6 s)
      obtain ⟨n0, n1, n2, n3, n4⟩ := cell_row5 RN.out
      dsimp only at n0 n1 n2 n3 n4
      clear hw6
      go_upto_region 7 with fail
      rw [show w5.alloc (Obj.cells #[Value.int .i64 2, .int .i64 1, .int .i64 s, .string ⟨#[]⟩, .slice none 0 0] 26) = w6 from HW6.out.symm]
      clear HW6
      go_wp2_with fail
      refine CR.out.mono ?_
      rintro e w7 ⟨rfl, b7⟩
      replace RR := Lib.hid (row_below RR.out b7)
      replace RN := Lib.hid (row_below RN.out b7)
      replace HB := Lib.hid (below_then HB.out b7)
      obtain ⟨n0, n1, n2, n3, n4⟩ := cell_row5 RN.out
      dsimp only at n0 n1 n2 n3 n4
      clear b7 CR
      obtain ⟨e0, e1, e2, e3, e4⟩ := cell_row5 RR.out
      have f1 := frozen_row RR.out
      dsimp only at e0 e1 e2 e3 e4
      cases hs : okC s with
      | true =>
        have HC : Hid (FC = cntV s) := by rw [HC0.out, outC, hs]; rfl
        have HE : Hid (FE = 0) := by rw [HE0.out, outE, hs]; rfl
        simp only [if_true]
        clear hs HC0 HE0
        go_wp2_with fail
        refine bodyPost_ret (v := .tuple #[cntV s, .int .i64 0]) (results_row_tmp rfl _ _ (g + 1) 26 _ (0, 0) _ rfl (set5 RR.out) Try.underlying26 rfl (by kernel_rfl) rfl) rfl ?_
        exact ⟨by rw [HC.out, HE.out], ((((HB.out.setCell HGW.out _).setCell HGW.out _).setCell HGW.out _).setCell HGW.out _).setCell HGW.out _⟩
      | false =>
        have HC : Hid (FC = zeroCell) := by rw [HC0.out, outC, hs]; rfl
        have HE : Hid (FE = 20) := by rw [HE0.out, outE, hs]; rfl
        simp only [Bool.false_eq_true, if_false]
        clear hs HC0 HE0
        go_wp2_with fail
        refine bodyPost_ret (v := .tuple #[zeroCell, .int .i64 20]) (results_row_tmp rfl _ _ (g + 1) 26 _ (0, 0) _ rfl (set5 RR.out) Try.underlying26 rfl (by kernel_rfl) rfl) rfl ?_
        exact ⟨by rw [HC.out, HE.out], ((((HB.out.setCell HGW.out _).setCell HGW.out _).setCell HGW.out _).setCell HGW.out _).setCell HGW.out _⟩
    · have HC : Hid (FC = zeroCell) := by show _ = _; rw [← hFC.out, addC, if_neg (fun h => ho h.2)]
      have HE : Hid (FE = 20) := by show _ = _; rw [← hFE.out, addE, if_pos hx, if_neg ho]
      obtain ⟨e0, e1, e2, e3, e4⟩ := cell_row5 RR.out
      have f1 := frozen_row RR.out
      dsimp only at e0 e1 e2 e3 e4
      subst h0
      have ho2 : m < -1099511627776 ∨ 1099511627776 < m := by
        simp only [okC, Bool.and_eq_true, decide_eq_true_eq] at ho
        omega
      clear hr hFC hFE hx ho
      rcases Decidable.em (m < -1099511627776) with z1 | z1
      · go_wp2_with fail
        refine bodyPost_ret (v := .tuple #[zeroCell, .int .i64 20]) (results_row_tmp rfl _ _ (g + 1) 26 _ (0, 0) _ rfl (set5 RR.out) Try.underlying26 rfl (by kernel_rfl) rfl) rfl ?_
        exact ⟨by rw [HC.out, HE.out], ((((HB.out.setCell HGW.out _).setCell HGW.out _).setCell HGW.out _).setCell HGW.out _).setCell HGW.out _⟩
      · have z2 : 1099511627776 < m := by omega
        clear ho2
        go_wp2_with fail
        refine bodyPost_ret (v := .tuple #[zeroCell, .int .i64 20]) (results_row_tmp rfl _ _ (g + 1) 26 _ (0, 0) _ rfl (set5 RR.out) Try.underlying26 rfl (by kernel_rfl) rfl) rfl ?_
        exact ⟨by rw [HC.out, HE.out], ((((HB.out.setCell HGW.out _).setCell HGW.out _).setCell HGW.out _).setCell HGW.out _).setCell HGW.out _⟩
  · have hx : ¬ x.right = 0 := fun h => h0 (hr.out.symm.trans h)
    have HC : Hid (FC = zeroCell) := by show _ = _; rw [← hFC.out, addC, if_neg (fun h => hx h.1)]
    have HE : Hid (FE = r) := by show _ = _; rw [← hFE.out, addE, if_neg hx, hr.out]
    obtain ⟨e0, e1, e2, e3, e4⟩ := cell_row5 RR.out
    have f1 := frozen_row RR.out
    dsimp only at e0 e1 e2 e3 e4
    clear hr hFC hFE hx
    go_wp2_with fail
    refine bodyPost_ret (v := .tuple #[zeroCell, .int .i64 r]) (results_row_tmp rfl _ _ (g + 1) 26 _ (0, 0) _ rfl (set5 RR.out) Try.underlying26 rfl (by kernel_rfl) rfl) rfl ?_
    exact ⟨by rw [HC.out, HE.out], ((((HB.out.setCell HGW.out _).setCell HGW.out _).setCell HGW.out _).setCell HGW.out _).setCell HGW.out _⟩

set_option maxHeartbeats 6400000 in
theorem refMerge8_any (a b o : C5) (w : World) :
    Calls Try.prog 46 #[a.val, b.val, o.val] w fun e w' => e = .returned (.tuple #[mergeC a b o, .int .i64 (mergeE a b o)]) ∧ Below w.heap.size w w' := by
  obtain ⟨g, hg⟩ : ∃ g, g = w.heap.size := ⟨_, rfl⟩
  obtain ⟨w1, hw1⟩ : ∃ w1, w1 = (((w.alloc (cellRow a.k a.v (.slice a.A a.n a.c))).alloc (cellRow b.k b.v (.slice b.A b.n b.c))).alloc (cellRow o.k o.v (.slice o.A o.n o.c))).alloc zeroRow := ⟨_, rfl⟩
  have HW1 := Lib.hid hw1; have HG := Lib.hid hg
  have hat : ∀ (w : World) (o : Obj) (g : Nat), w.heap.size = g → (w.alloc o).heap[g]? = some o := fun w o g h => by subst h; exact heap_alloc_new _ _
  have HB : Hid (Below w.heap.size w w1) := by rw [hw1]; exact below_new (below_new (below_new (below_new (Below.refl _ _) _) _) _) _
  have R0 : Hid (w1.heap[g]? = some (cellRow a.k a.v (.slice a.A a.n a.c))) := by
    show _ = _
    rw [hw1, hg]
    rw [Below.heap_alloc _ _ _ (by simp only [World.size_alloc]; omega), Below.heap_alloc _ _ _ (by simp only [World.size_alloc]; omega), Below.heap_alloc _ _ _ (by simp only [World.size_alloc]; omega)]
    exact hat _ _ _ rfl
  have R1 : Hid (w1.heap[g + 1]? = some (cellRow b.k b.v (.slice b.A b.n b.c))) := by
    show _ = _
    rw [hw1, hg]
    rw [Below.heap_alloc _ _ _ (by simp only [World.size_alloc]; omega), Below.heap_alloc _ _ _ (by simp only [World.size_alloc]; omega)]
    exact hat _ _ _ (by simp only [World.size_alloc])
  have R2 : Hid (w1.heap[g + 2]? = some (cellRow o.k o.v (.slice o.A o.n o.c))) := by
    show _ = _
    rw [hw1, hg]
    rw [Below.heap_alloc _ _ _ (by simp only [World.size_alloc]; omega)]
    exact hat _ _ _ (by simp only [World.size_alloc])
  have RR : Hid (w1.heap[g + 3]? = some zeroRow) := by
    show _ = _
    rw [hw1, hg]
    exact hat _ _ _ (by simp only [World.size_alloc])
  have HGW : Hid (w.heap.size ≤ g + 3) := by rw [hg]; exact Nat.le_add_right _ _
  clear hg hw1 hat
  obtain ⟨r0, h0⟩ : ∃ r, Hid (a.right = r) := ⟨_, rfl⟩
  obtain ⟨r1, h1⟩ : ∃ r, Hid (b.right = r) := ⟨_, rfl⟩
  obtain ⟨r2, h2⟩ : ∃ r, Hid (o.right = r) := ⟨_, rfl⟩
  have C0 : Hid (∀ W : World, Calls Try.prog 39 #[cellV a.k a.v (.slice a.A a.n a.c)] W fun e w' => e = .returned (.int .i64 r0) ∧ Below W.heap.size W w') := by
    intro W; rw [← h0.out]; exact refRight8_any _ _ _ _ _ W
  have C1 : Hid (∀ W : World, Calls Try.prog 39 #[cellV b.k b.v (.slice b.A b.n b.c)] W fun e w' => e = .returned (.int .i64 r1) ∧ Below W.heap.size W w') := by
    intro W; rw [← h1.out]; exact refRight8_any _ _ _ _ _ W
  have C2 : Hid (∀ W : World, Calls Try.prog 39 #[cellV o.k o.v (.slice o.A o.n o.c)] W fun e w' => e = .returned (.int .i64 r2) ∧ Below W.heap.size W w') := by
    intro W; rw [← h2.out]; exact refRight8_any _ _ _ _ _ W
  have H3 : Hid (firstN [a, b, o] = if r0 = 0 then (if r1 = 0 then r2 else r1) else r0) := by show _ = _; rw [first3, h0.out, h1.out, h2.out]
  obtain ⟨FC, hFC⟩ : ∃ F, Hid (mergeC a b o = F) := ⟨_, rfl⟩
  obtain ⟨FE, hFE⟩ : ∃ F, Hid (mergeE a b o = F) := ⟨_, rfl⟩
  rw [hFC.out, hFE.out]
  obtain ⟨x0a, x0b, x0c, x0d, x0e⟩ := cell_row5 R0.out
  obtain ⟨x1a, x1b, x1c, x1d, x1e⟩ := cell_row5 R1.out
  obtain ⟨x2a, x2b, x2c, x2d, x2e⟩ := cell_row5 R2.out
  go_enter Try.func46, Try.ntmps46
  go_upto_region 1 with fail
  rw [← HG.out]
  rw [show (((w.alloc (cellRow a.k a.v (.slice a.A a.n a.c))).alloc (cellRow b.k b.v (.slice b.A b.n b.c))).alloc (cellRow o.k o.v (.slice o.A o.n o.c))).alloc (Obj.cells #[Value.int .i64 0, .int .i64 0, .int .i64 0, .string ⟨#[]⟩, .slice none 0 0] 26) = w1 from HW1.out.symm]
  clear HW1
  go_wp2_with fail
  refine (C0.out _).mono ?_
  rintro e w2 ⟨rfl, b2⟩
  replace R0 := Lib.hid (row_below R0.out b2)
  replace R1 := Lib.hid (row_below R1.out b2)
  replace R2 := Lib.hid (row_below R2.out b2)
  replace RR := Lib.hid (row_below RR.out b2)
  replace HB := Lib.hid (below_then HB.out b2)
  clear b2 C0 x0a x0b x0c x0d x0e x1a x1b x1c x1d x1e x2a x2b x2c x2d x2e
  obtain ⟨x0a, x0b, x0c, x0d, x0e⟩ := cell_row5 R0.out
  obtain ⟨x1a, x1b, x1c, x1d, x1e⟩ := cell_row5 R1.out
  obtain ⟨x2a, x2b, x2c, x2d, x2e⟩ := cell_row5 R2.out
  go_wp2_with fail
  refine (C1.out _).mono ?_
  rintro e w3 ⟨rfl, b3⟩
  replace R0 := Lib.hid (row_below R0.out b3)
  replace R1 := Lib.hid (row_below R1.out b3)
  replace R2 := Lib.hid (row_below R2.out b3)
  replace RR := Lib.hid (row_below RR.out b3)
  replace HB := Lib.hid (below_then HB.out b3)
  clear b3 C1 x0a x0b x0c x0d x0e x1a x1b x1c x1d x1e x2a x2b x2c x2d x2e
  obtain ⟨x0a, x0b, x0c, x0d, x0e⟩ := cell_row5 R0.out
  obtain ⟨x1a, x1b, x1c, x1d, x1e⟩ := cell_row5 R1.out
  obtain ⟨x2a, x2b, x2c, x2d, x2e⟩ := cell_row5 R2.out
  go_wp2_with fail
  refine (C2.out _).mono ?_
  rintro e w4 ⟨rfl, b4⟩
  replace R0 := Lib.hid (row_below R0.out b4)
  replace R1 := Lib.hid (row_below R1.out b4)
  replace R2 := Lib.hid (row_below R2.out b4)
  replace RR := Lib.hid (row_below RR.out b4)
  replace HB := Lib.hid (below_then HB.out b4)
  clear b4 C2 x0a x0b x0c x0d x0e x1a x1b x1c x1d x1e x2a x2b x2c x2d x2e
  obtain ⟨x0a, x0b, x0c, x0d, x0e⟩ := cell_row5 R0.out
  obtain ⟨x1a, x1b, x1c, x1d, x1e⟩ := cell_row5 R1.out
  obtain ⟨x2a, x2b, x2c, x2d, x2e⟩ := cell_row5 R2.out
  obtain ⟨e0, e1, e2, e3, e4⟩ := cell_row5 RR.out
  have f1 := frozen_row RR.out
  dsimp only at e0 e1 e2 e3 e4
  by_cases z0 : r0 = 0
  · by_cases z1 : r1 = 0
    · by_cases z2 : r2 = 0
      · have h3 : firstN [a, b, o] = 0 := by rw [H3.out]; simp [z0, z1, z2]
        have HC0 : Hid (FC = outC (a.v.n + b.v.n - o.v.n)) := by show _ = _; rw [← hFC.out, mergeC, if_pos h3]
        have HE0 : Hid (FE = outE (a.v.n + b.v.n - o.v.n)) := by show _ = _; rw [← hFE.out, mergeE, if_pos h3]
        obtain ⟨_, _, _, _, a1, a2⟩ := right_n (h0.out.trans z0)
        obtain ⟨_, _, _, _, b1, b2⟩ := right_n (h1.out.trans z1)
        obtain ⟨_, _, _, _, o1, o2⟩ := right_n (h2.out.trans z2)
        have hw1 : IntKind.i64.wrap (a.v.n - o.v.n) = a.v.n - o.v.n := wrap_is (by omega)
        have hw2 : IntKind.i64.wrap (o.v.n + (a.v.n - o.v.n)) = o.v.n + (a.v.n - o.v.n) := wrap_is (by omega)
        have hw3 : IntKind.i64.wrap (b.v.n - o.v.n) = b.v.n - o.v.n := wrap_is (by omega)
        have hw4 : IntKind.i64.wrap (o.v.n + (a.v.n - o.v.n) + (b.v.n - o.v.n)) = a.v.n + b.v.n - o.v.n := by rw [wrap_is (by omega)]; omega
        subst z0; subst z1; subst z2
        clear hFC hFE H3 h0 h1 h2 h3 a1 a2 b1 b2 o1 o2
        go_wp2_with fail
        refine (refOf8_any _ _).mono ?_
        clear hw1 hw2 hw3 hw4
        rintro e w5 ⟨rfl, b5⟩
        replace RR := Lib.hid (row_below RR.out b5)
        replace HB := Lib.hid (below_then HB.out b5)
        clear b5
        generalize a.v.n + b.v.n - o.v.n = s at HC0 HE0 ⊢
        obtain ⟨w6, hw6⟩ : ∃ w6, w6 = w5.alloc (cntRow s) := ⟨_, rfl⟩
        have RN : Hid (w6.heap[w5.heap.size]? = some (cntRow s)) := by rw [hw6]; exact heap_alloc_new _ _
        replace RR : Hid (w6.heap[g + 3]? = some zeroRow) := by rw [hw6]; exact row_below RR.out (below_new (Below.refl _ _) _)
        replace HB : Hid (Below w.heap.size w w6) := by rw [hw6]; exact below_new HB.out _
        have HW6 := Lib.hid hw6
        have CR := Lib.hid (right_of w6 s)
        obtain ⟨n0, n1, n2, n3, n4⟩ := cell_row5 RN.out
        dsimp only at n0 n1 n2 n3 n4
        clear hw6
        go_upto_region 11 with fail
        rw [show w5.alloc (Obj.cells #[Value.int .i64 2, .int .i64 1, .int .i64 s, .string ⟨#[]⟩, .slice none 0 0] 26) = w6 from HW6.out.symm]
        clear HW6
        go_wp2_with fail
        refine CR.out.mono ?_
        rintro e w7 ⟨rfl, b7⟩
        replace RR := Lib.hid (row_below RR.out b7)
        replace RN := Lib.hid (row_below RN.out b7)
        replace HB := Lib.hid (below_then HB.out b7)
        obtain ⟨n0, n1, n2, n3, n4⟩ := cell_row5 RN.out
        dsimp only at n0 n1 n2 n3 n4
        clear b7 CR
        obtain ⟨e0, e1, e2, e3, e4⟩ := cell_row5 RR.out
        have f1 := frozen_row RR.out
        dsimp only at e0 e1 e2 e3 e4
        cases hs : okC s with
        | true =>
          have HC : Hid (FC = cntV s) := by rw [HC0.out, outC, hs]; rfl
          have HE : Hid (FE = 0) := by rw [HE0.out, outE, hs]; rfl
          simp only [if_true]
          clear hs HC0 HE0
          go_wp2_with fail
          refine bodyPost_ret (v := .tuple #[cntV s, .int .i64 0]) (results_row_tmp rfl _ _ (g + 3) 26 _ (0, 0) _ rfl (set5 RR.out) Try.underlying26 rfl (by kernel_rfl) rfl) rfl ?_
          exact ⟨by rw [HC.out, HE.out], ((((HB.out.setCell HGW.out _).setCell HGW.out _).setCell HGW.out _).setCell HGW.out _).setCell HGW.out _⟩
        | false =>
          have HC : Hid (FC = zeroCell) := by rw [HC0.out, outC, hs]; rfl
          have HE : Hid (FE = 20) := by rw [HE0.out, outE, hs]; rfl
          simp only [Bool.false_eq_true, if_false]
          clear hs HC0 HE0
          go_wp2_with fail
          refine bodyPost_ret (v := .tuple #[zeroCell, .int .i64 20]) (results_row_tmp rfl _ _ (g + 3) 26 _ (0, 0) _ rfl (set5 RR.out) Try.underlying26 rfl (by kernel_rfl) rfl) rfl ?_
          exact ⟨by rw [HC.out, HE.out], ((((HB.out.setCell HGW.out _).setCell HGW.out _).setCell HGW.out _).setCell HGW.out _).setCell HGW.out _⟩
      · subst z0; subst z1
        have h3 : firstN [a, b, o] = r2 := by rw [H3.out]; simp
        have hne : ¬ firstN [a, b, o] = 0 := by rw [h3]; assumption
        have HC : Hid (FC = zeroCell) := by show _ = _; rw [← hFC.out, mergeC, if_neg hne]
        have HE : Hid (FE = r2) := by show _ = _; rw [← hFE.out, mergeE, if_neg hne, h3]
        clear hFC hFE H3 h0 h1 h2 h3 hne
        go_wp2_with fail
        refine bodyPost_ret (v := .tuple #[zeroCell, .int .i64 r2]) (results_row_tmp rfl _ _ (g + 3) 26 _ (0, 0) _ rfl (set5 RR.out) Try.underlying26 rfl (by kernel_rfl) rfl) rfl ?_
        exact ⟨by rw [HC.out, HE.out], ((((HB.out.setCell HGW.out _).setCell HGW.out _).setCell HGW.out _).setCell HGW.out _).setCell HGW.out _⟩
    · subst z0
      have h3 : firstN [a, b, o] = r1 := by rw [H3.out]; simp [z1]
      have hne : ¬ firstN [a, b, o] = 0 := by rw [h3]; assumption
      have HC : Hid (FC = zeroCell) := by show _ = _; rw [← hFC.out, mergeC, if_neg hne]
      have HE : Hid (FE = r1) := by show _ = _; rw [← hFE.out, mergeE, if_neg hne, h3]
      clear hFC hFE H3 h0 h1 h2 h3 hne
      go_wp2_with fail
      refine bodyPost_ret (v := .tuple #[zeroCell, .int .i64 r1]) (results_row_tmp rfl _ _ (g + 3) 26 _ (0, 0) _ rfl (set5 RR.out) Try.underlying26 rfl (by kernel_rfl) rfl) rfl ?_
      exact ⟨by rw [HC.out, HE.out], ((((HB.out.setCell HGW.out _).setCell HGW.out _).setCell HGW.out _).setCell HGW.out _).setCell HGW.out _⟩
  · skip
    have h3 : firstN [a, b, o] = r0 := by rw [H3.out]; simp [z0]
    have hne : ¬ firstN [a, b, o] = 0 := by rw [h3]; assumption
    have HC : Hid (FC = zeroCell) := by show _ = _; rw [← hFC.out, mergeC, if_neg hne]
    have HE : Hid (FE = r0) := by show _ = _; rw [← hFE.out, mergeE, if_neg hne, h3]
    clear hFC hFE H3 h0 h1 h2 h3 hne
    go_wp2_with fail
    refine bodyPost_ret (v := .tuple #[zeroCell, .int .i64 r0]) (results_row_tmp rfl _ _ (g + 3) 26 _ (0, 0) _ rfl (set5 RR.out) Try.underlying26 rfl (by kernel_rfl) rfl) rfl ?_
    exact ⟨by rw [HC.out, HE.out], ((((HB.out.setCell HGW.out _).setCell HGW.out _).setCell HGW.out _).setCell HGW.out _).setCell HGW.out _⟩

/-- are two cells, without parts, one -/
def same8 (x y : C5) : Bool := decide (x.k = y.k) && (sameZ x.v.k x.v.n x.v.s y.v.k y.v.n y.v.s && (decide (x.n = 0) && decide (y.n = 0)))

set_option maxHeartbeats 3200000 in
theorem refSame8_any (x y : C5) (w : World) :
    Calls Try.prog 42 #[x.val, y.val] w fun e w' => e = .returned (.bool (same8 x y)) ∧ Below w.heap.size w w' := by
  have R : ((w.alloc (cellRow x.k x.v (.slice x.A x.n x.c))).alloc (cellRow y.k y.v (.slice y.A y.n y.c))).heap[w.heap.size]? = some (cellRow x.k x.v (.slice x.A x.n x.c)) := row_below (heap_alloc_new _ _) (below_new (Below.refl _ _) _)
  have T : ((w.alloc (cellRow x.k x.v (.slice x.A x.n x.c))).alloc (cellRow y.k y.v (.slice y.A y.n y.c))).heap[w.heap.size + 1]? = some (cellRow y.k y.v (.slice y.A y.n y.c)) := by
    have := heap_alloc_new (w.alloc (cellRow x.k x.v (.slice x.A x.n x.c))) (cellRow y.k y.v (.slice y.A y.n y.c))
    rw [World.size_alloc] at this; exact this
  obtain ⟨x0, x1, x2, x3, x4⟩ := cell_row5 R
  obtain ⟨y0, y1, y2, y3, y4⟩ := cell_row5 T
  have HB := Lib.hid (below_new (below_new (Below.refl w.heap.size w) (cellRow x.k x.v (.slice x.A x.n x.c))) (cellRow y.k y.v (.slice y.A y.n y.c)))
  obtain ⟨q, hq⟩ : ∃ q, Hid (sameZ x.v.k x.v.n x.v.s y.v.k y.v.n y.v.s = q) := ⟨_, rfl⟩
  have EQ := run_equalIn_val x.v.k x.v.n y.v.k y.v.n x.v.s y.v.s
  rw [hq.out] at EQ
  obtain ⟨F, hF⟩ : ∃ F, Hid (same8 x y = F) := ⟨_, rfl⟩
  rw [hF.out]
  have HF : Hid (F = (decide (x.k = y.k) && (q && (decide (x.n = 0) && decide (y.n = 0))))) := by show _ = _; rw [← hF.out, same8, hq.out]
  clear R T hF hq
  go_enter Try.func42, Try.ntmps42
  cases q
  all_goals go_wp2_with fail
  all_goals go_ret
  all_goals refine ⟨ret_bool ?_, below_new (below_new (Below.refl _ _) _) _⟩
  all_goals rw [HF.out]
  all_goals clear HF EQ HB
  all_goals simp_all
  rw [Bool.eq_iff_iff, beq_iff_eq, decide_eq_true_eq]
  omega
end Go.Proofs.Ytieaobeidlhefaa
