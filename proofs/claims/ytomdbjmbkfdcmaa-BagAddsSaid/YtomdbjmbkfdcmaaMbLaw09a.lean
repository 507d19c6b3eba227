/- What was put is there, and all other numbers are as they were; put twice it is as put once. Of all cells, numbers, dots. -/
import Derived.Test.YtomdbjmbkfdcmaaRows
import Derived.Test.YtomdbjmbkfdcmaaMbBase
import Derived.Test.YtomdbjmbkfdcmaaMbBagAlive
import Derived.Test.YtomdbjmbkfdcmaaMbBagF
import Derived.Test.YtomdbjmbkfdcmaaMbBagFew
import Derived.Test.YtomdbjmbkfdcmaaMbOpen
import Derived.Test.YtomdbjmbkfdcmaaMbVecOpen
namespace Go.Proofs.Ytomdbjmbkfdcmaa.bagAdds
open Go.ChangeShapes Go.WideShapes Go.ChangeAt Go.RowKit Go.ChangeMaps

set_option maxRecDepth 100000 in
set_option maxHeartbeats 12800000 in
theorem walk (k : Int) (u : V3) (A : Option Addr) (n c : Nat) (l : List P11) (z0 z1 dx dy : Int) (w : World) (h : RdP w A n c l) :
    Calls Try.prog 5 #[cellV k u (.slice A n c), .agg #[.int .i64 z0, .int .i64 z1], .agg #[.int .i64 dx, .int .i64 dy]] w fun e w' => e = .returned (.bool true) ∧ Below w.heap.size w w' := by
  have HB := Lib.hid (Below.refl w.heap.size w)
  have HLN := Lib.hid h.len
  have RD := Lib.hid h
  clear h
  obtain ⟨r, hr⟩ : ∃ r, Hid (rightS k u l = r) := ⟨_, rfl⟩
  have CR : Hid (∀ W : World, RdP W A n c l → Calls Try.prog 18 #[cellV k u (.slice A n c)] W fun e w' => e = .returned (.bool r) ∧ Below W.heap.size W w') := by
    intro W hW; rw [← hr.out]; exact rightS_any k u A n c l W hW
  by_cases hn : n ≤ 60
  rotate_left
  · have FW : Hid (∀ W : World, Calls Try.prog 17 #[cellV k u (.slice A n c)] W fun e w' => e = .returned (.bool false) ∧ Below W.heap.size W w') := by
      intro W
      have := few9_any k u A n c W
      rwa [decide_eq_false (by omega)] at this
    clear hn
    obtain ⟨g, hg⟩ : ∃ g, g = w.heap.size := ⟨_, rfl⟩
    obtain ⟨w0, hw0⟩ : ∃ w1, w1 = (((w.alloc (cellRow k u (.slice A n c))).alloc (.cells #[.int .i64 z0, .int .i64 z1] 44)).alloc (dotRow ⟨dx, dy⟩)) := ⟨_, rfl⟩
    have HW0 := Lib.hid hw0; have HG := Lib.hid hg
    have hat : ∀ (w : World) (o : Obj) (g : Nat), w.heap.size = g → (w.alloc o).heap[g]? = some o := fun w o g h => by subst h; exact heap_alloc_new _ _
    have bb : Below w.heap.size w w0 := by rw [hw0]; exact below_new (below_new (below_new (Below.refl _ _) _) _) _
    have RX : Hid (w0.heap[g]? = some (cellRow k u (.slice A n c))) := by
      show _ = _
      rw [hw0, hg]
      rw [Below.heap_alloc _ _ _ (by simp only [World.size_alloc]; omega), Below.heap_alloc _ _ _ (by simp only [World.size_alloc]; omega)]
      exact hat _ _ _ rfl
    have RZ : Hid (w0.heap[g + 1]? = some (.cells #[.int .i64 z0, .int .i64 z1] 44)) := by
      show _ = _
      rw [hw0, hg]
      rw [Below.heap_alloc _ _ _ (by simp only [World.size_alloc]; omega)]
      exact hat _ _ _ (by simp only [World.size_alloc])
    have RQ : Hid (w0.heap[g + 2]? = some (dotRow ⟨dx, dy⟩)) := by
      show _ = _
      rw [hw0, hg]
      skip
      exact hat _ _ _ (by simp only [World.size_alloc])
    replace RD := Lib.hid (RD.out.below bb)
    replace HB := Lib.hid (below_then HB.out bb)
    clear bb hg hw0 hat
    go_enter Try.func5, Try.ntmps5
    go_upto_region 1 with fail
    rw [← HG.out]
    rw [show (((w.alloc (Obj.cells #[Value.int .i64 k, .int .i64 u.k, .int .i64 u.n, .string u.s, .slice A n c] 26)).alloc (Obj.cells #[Value.int .i64 z0, .int .i64 z1] 44)).alloc (Obj.cells #[Value.int .i64 dx, .int .i64 dy] 28)) = w0 from HW0.out.symm]
    clear HW0
    obtain ⟨RX0, RX1, RX2, RX3, RX4⟩ := cell_row5 RX.out
    go_wp2_with fail
    refine (FW.out _).mono ?_
    rintro e v1 ⟨rfl, bb⟩
    replace RX := Lib.hid (row_below RX.out bb)
    replace RZ := Lib.hid (row_below RZ.out bb)
    replace RQ := Lib.hid (row_below RQ.out bb)
    replace RD := Lib.hid (RD.out.below bb)
    replace HB := Lib.hid (below_then HB.out bb)
    clear bb
    clear RX0 RX1 RX2 RX3 RX4
    go_wp2_with fail
    refine (alive9_any _).mono ?_
    rintro e v2 ⟨rfl, bb⟩
    replace RX := Lib.hid (row_below RX.out bb)
    replace RZ := Lib.hid (row_below RZ.out bb)
    replace RQ := Lib.hid (row_below RQ.out bb)
    replace RD := Lib.hid (RD.out.below bb)
    replace HB := Lib.hid (below_then HB.out bb)
    clear bb
    go_wp2_with fail
    go_ret
    exact ⟨rfl, HB.out⟩
  cases r with
  | false =>
    have FW : Hid (∀ W : World, Calls Try.prog 17 #[cellV k u (.slice A n c)] W fun e w' => e = .returned (.bool true) ∧ Below W.heap.size W w') := by
      intro W
      have := few9_any k u A n c W
      rwa [decide_eq_true (by omega)] at this
    clear hn
    obtain ⟨g, hg⟩ : ∃ g, g = w.heap.size := ⟨_, rfl⟩
    obtain ⟨w0, hw0⟩ : ∃ w1, w1 = (((w.alloc (cellRow k u (.slice A n c))).alloc (.cells #[.int .i64 z0, .int .i64 z1] 44)).alloc (dotRow ⟨dx, dy⟩)) := ⟨_, rfl⟩
    have HW0 := Lib.hid hw0; have HG := Lib.hid hg
    have hat : ∀ (w : World) (o : Obj) (g : Nat), w.heap.size = g → (w.alloc o).heap[g]? = some o := fun w o g h => by subst h; exact heap_alloc_new _ _
    have bb : Below w.heap.size w w0 := by rw [hw0]; exact below_new (below_new (below_new (Below.refl _ _) _) _) _
    have RX : Hid (w0.heap[g]? = some (cellRow k u (.slice A n c))) := by
      show _ = _
      rw [hw0, hg]
      rw [Below.heap_alloc _ _ _ (by simp only [World.size_alloc]; omega), Below.heap_alloc _ _ _ (by simp only [World.size_alloc]; omega)]
      exact hat _ _ _ rfl
    have RZ : Hid (w0.heap[g + 1]? = some (.cells #[.int .i64 z0, .int .i64 z1] 44)) := by
      show _ = _
      rw [hw0, hg]
      rw [Below.heap_alloc _ _ _ (by simp only [World.size_alloc]; omega)]
      exact hat _ _ _ (by simp only [World.size_alloc])
    have RQ : Hid (w0.heap[g + 2]? = some (dotRow ⟨dx, dy⟩)) := by
      show _ = _
      rw [hw0, hg]
      skip
      exact hat _ _ _ (by simp only [World.size_alloc])
    replace RD := Lib.hid (RD.out.below bb)
    replace HB := Lib.hid (below_then HB.out bb)
    clear bb hg hw0 hat
    go_enter Try.func5, Try.ntmps5
    go_upto_region 1 with fail
    rw [← HG.out]
    rw [show (((w.alloc (Obj.cells #[Value.int .i64 k, .int .i64 u.k, .int .i64 u.n, .string u.s, .slice A n c] 26)).alloc (Obj.cells #[Value.int .i64 z0, .int .i64 z1] 44)).alloc (Obj.cells #[Value.int .i64 dx, .int .i64 dy] 28)) = w0 from HW0.out.symm]
    clear HW0
    obtain ⟨RX0, RX1, RX2, RX3, RX4⟩ := cell_row5 RX.out
    go_wp2_with fail
    refine (FW.out _).mono ?_
    rintro e v1 ⟨rfl, bb⟩
    replace RX := Lib.hid (row_below RX.out bb)
    replace RZ := Lib.hid (row_below RZ.out bb)
    replace RQ := Lib.hid (row_below RQ.out bb)
    replace RD := Lib.hid (RD.out.below bb)
    replace HB := Lib.hid (below_then HB.out bb)
    clear bb
    clear RX0 RX1 RX2 RX3 RX4
    obtain ⟨RX0, RX1, RX2, RX3, RX4⟩ := cell_row5 RX.out
    go_wp2_with fail
    refine (CR.out _ RD.out).mono ?_
    rintro e v2 ⟨rfl, bb⟩
    replace RX := Lib.hid (row_below RX.out bb)
    replace RZ := Lib.hid (row_below RZ.out bb)
    replace RQ := Lib.hid (row_below RQ.out bb)
    replace RD := Lib.hid (RD.out.below bb)
    replace HB := Lib.hid (below_then HB.out bb)
    clear bb
    clear RX0 RX1 RX2 RX3 RX4
    go_wp2_with fail
    refine (alive9_any _).mono ?_
    rintro e v3 ⟨rfl, bb⟩
    replace RX := Lib.hid (row_below RX.out bb)
    replace RZ := Lib.hid (row_below RZ.out bb)
    replace RQ := Lib.hid (row_below RQ.out bb)
    replace RD := Lib.hid (RD.out.below bb)
    replace HB := Lib.hid (below_then HB.out bb)
    clear bb
    go_wp2_with fail
    go_ret
    exact ⟨rfl, HB.out⟩
  | true =>
  by_cases hz : z0 = z1
  rotate_left
  · have FW : Hid (∀ W : World, Calls Try.prog 17 #[cellV k u (.slice A n c)] W fun e w' => e = .returned (.bool true) ∧ Below W.heap.size W w') := by
      intro W
      have := few9_any k u A n c W
      rwa [decide_eq_true (by omega)] at this
    obtain ⟨L, hL⟩ : ∃ L, Hid (putB l ⟨z0, ⟨dx, dy⟩⟩ = L) := ⟨_, rfl⟩
    obtain ⟨N, hNN⟩ : ∃ N, Hid (L.length = N) := ⟨_, rfl⟩
    have hn6 : n ≤ 4294967000 := by omega
    have hN6 : Hid (N = n ∨ N = n + 1) := by
      show _ ∨ _
      rw [← hNN.out, ← hL.out, ← HLN.out]; exact putB_len _ _
    have h2L : Hid (putB L ⟨z0, ⟨dx, dy⟩⟩ = L) := by show _ = _; rw [← hL.out]; exact putB_twice _ _
    have hNn : N ≤ 4294967000 := by have := hN6.out; omega
    have H1 : Hid (∀ (A1 : Option Addr) (d1 : Nat) (W : World), RdP W A1 N d1 L → Calls Try.prog 23 #[cellV k u (.slice A1 N d1), .int .i64 z0] W fun e w' => e = .returned (.bool true) ∧ Below W.heap.size W w') := by
      intro A1 d1 W hW
      have := hasB_any k u A1 N d1 L z0 W hW
      rw [show hasB L z0 = true by rw [← hL.out, hasB_putB]; simp] at this
      exact this
    obtain ⟨b, hb⟩ : ∃ b, Hid (hasB l z1 = b) := ⟨_, rfl⟩
    have H2 : Hid (∀ (A1 : Option Addr) (d1 : Nat) (W : World), RdP W A1 N d1 L → Calls Try.prog 23 #[cellV k u (.slice A1 N d1), .int .i64 z1] W fun e w' => e = .returned (.bool b) ∧ Below W.heap.size W w') := by
      intro A1 d1 W hW
      have := hasB_any k u A1 N d1 L z1 W hW
      rw [show hasB L z1 = b by rw [← hL.out, hasB_putB, hb.out]; simp [hz]] at this
      exact this
    have H3 : Hid (∀ W : World, RdP W A n c l → Calls Try.prog 23 #[cellV k u (.slice A n c), .int .i64 z1] W fun e w' => e = .returned (.bool b) ∧ Below W.heap.size W w') := by
      intro W hW
      have := hasB_any k u A n c l z1 W hW
      rw [hb.out] at this
      exact this
    have hz1 : (z0 == z1) = false := by simp [hz]
    have hz2 : decide (z0 = z1) = false := decide_eq_false hz
    have P1 : Hid (∀ W : World, RdP W A n c l → Calls Try.prog 22 #[cellV k u (.slice A n c), .int .i64 z0, .agg #[.int .i64 dx, .int .i64 dy]] W fun e w' => ∃ A' c', e = .returned (cellV k u (.slice A' N c')) ∧ RdP w' A' N c' L ∧ Below W.heap.size W w') := by
      intro W hW
      have := putB_any k u A n c l z0 ⟨dx, dy⟩ W hW (by omega)
      rw [hL.out, hNN.out] at this
      exact this
    have P2 : Hid (∀ (A1 : Option Addr) (d1 : Nat) (W : World), RdP W A1 N d1 L → Calls Try.prog 22 #[cellV k u (.slice A1 N d1), .int .i64 z0, .agg #[.int .i64 dx, .int .i64 dy]] W fun e w' => ∃ A' c', e = .returned (cellV k u (.slice A' N c')) ∧ RdP w' A' N c' L ∧ Below W.heap.size W w') := by
      intro A1 d1 W hW
      have := putB_any k u A1 N d1 L z0 ⟨dx, dy⟩ W hW (by omega)
      rw [h2L.out, hNN.out] at this
      exact this
    obtain ⟨D, hD⟩ : ∃ D : Int, D = (N : Int) - (n : Int) := ⟨_, rfl⟩
    have D0 : 0 ≤ D := by have := hN6.out; omega
    have D1 : D ≤ 1 := by have := hN6.out; omega
    have D2 : IntKind.i64.wrap ((N : Int) - (n : Int)) = D := by rw [← hD]; exact wrap_is (by omega)
    have D3 : decide (0 ≤ D) = true := decide_eq_true D0
    have D4 : decide (D ≤ 1) = true := decide_eq_true D1
    have HD2 := Lib.hid (And.intro D0 (And.intro D1 (And.intro D2 (And.intro D3 D4))))
    clear D0 D1 D2 D3 D4 hD hN6 h2L hNn hn6 hn hL hNN HLN hr
    obtain ⟨g, hg⟩ : ∃ g, g = w.heap.size := ⟨_, rfl⟩
    obtain ⟨w0, hw0⟩ : ∃ w1, w1 = (((w.alloc (cellRow k u (.slice A n c))).alloc (.cells #[.int .i64 z0, .int .i64 z1] 44)).alloc (dotRow ⟨dx, dy⟩)) := ⟨_, rfl⟩
    have HW0 := Lib.hid hw0; have HG := Lib.hid hg
    have hat : ∀ (w : World) (o : Obj) (g : Nat), w.heap.size = g → (w.alloc o).heap[g]? = some o := fun w o g h => by subst h; exact heap_alloc_new _ _
    have bb : Below w.heap.size w w0 := by rw [hw0]; exact below_new (below_new (below_new (Below.refl _ _) _) _) _
    have RX : Hid (w0.heap[g]? = some (cellRow k u (.slice A n c))) := by
      show _ = _
      rw [hw0, hg]
      rw [Below.heap_alloc _ _ _ (by simp only [World.size_alloc]; omega), Below.heap_alloc _ _ _ (by simp only [World.size_alloc]; omega)]
      exact hat _ _ _ rfl
    have RZ : Hid (w0.heap[g + 1]? = some (.cells #[.int .i64 z0, .int .i64 z1] 44)) := by
      show _ = _
      rw [hw0, hg]
      rw [Below.heap_alloc _ _ _ (by simp only [World.size_alloc]; omega)]
      exact hat _ _ _ (by simp only [World.size_alloc])
    have RQ : Hid (w0.heap[g + 2]? = some (dotRow ⟨dx, dy⟩)) := by
      show _ = _
      rw [hw0, hg]
      skip
      exact hat _ _ _ (by simp only [World.size_alloc])
    replace RD := Lib.hid (RD.out.below bb)
    replace HB := Lib.hid (below_then HB.out bb)
    clear bb hg hw0 hat
    go_enter Try.func5, Try.ntmps5
    go_upto_region 1 with fail
    rw [← HG.out]
    rw [show (((w.alloc (Obj.cells #[Value.int .i64 k, .int .i64 u.k, .int .i64 u.n, .string u.s, .slice A n c] 26)).alloc (Obj.cells #[Value.int .i64 z0, .int .i64 z1] 44)).alloc (Obj.cells #[Value.int .i64 dx, .int .i64 dy] 28)) = w0 from HW0.out.symm]
    clear HW0
    obtain ⟨RX0, RX1, RX2, RX3, RX4⟩ := cell_row5 RX.out
    go_wp2_with fail
    refine (FW.out _).mono ?_
    rintro e v1 ⟨rfl, bb⟩
    replace RX := Lib.hid (row_below RX.out bb)
    replace RZ := Lib.hid (row_below RZ.out bb)
    replace RQ := Lib.hid (row_below RQ.out bb)
    replace RD := Lib.hid (RD.out.below bb)
    replace HB := Lib.hid (below_then HB.out bb)
    clear bb
    clear RX0 RX1 RX2 RX3 RX4
    obtain ⟨RX0, RX1, RX2, RX3, RX4⟩ := cell_row5 RX.out
    go_wp2_with fail
    refine (CR.out _ RD.out).mono ?_
    rintro e v2 ⟨rfl, bb⟩
    replace RX := Lib.hid (row_below RX.out bb)
    replace RZ := Lib.hid (row_below RZ.out bb)
    replace RQ := Lib.hid (row_below RQ.out bb)
    replace RD := Lib.hid (RD.out.below bb)
    replace HB := Lib.hid (below_then HB.out bb)
    clear bb
    clear RX0 RX1 RX2 RX3 RX4
    obtain ⟨RX0, RX1, RX2, RX3, RX4⟩ := cell_row5 RX.out
    have RZ0 := cell_row RZ.out 0
    have RZ1 := cell_row RZ.out 1
    simp only [List.getElem?_toArray, List.getElem?_cons_zero, List.getElem?_cons_succ] at RZ0 RZ1
    obtain ⟨RQ0, RQ1⟩ := dot_row RQ.out
    try dsimp only at RQ0 RQ1
    go_wp2_with fail
    refine (P1.out _ RD.out).mono ?_
    rintro e v3 ⟨A1, d1, rfl, hrl, bb⟩
    replace RX := Lib.hid (row_below RX.out bb)
    replace RZ := Lib.hid (row_below RZ.out bb)
    replace RQ := Lib.hid (row_below RQ.out bb)
    replace RD := Lib.hid (RD.out.below bb)
    replace HB := Lib.hid (below_then HB.out bb)
    clear bb
    have RL := Lib.hid hrl
    clear hrl
    clear RX0 RX1 RX2 RX3 RX4 RZ0 RZ1 RQ0 RQ1
    obtain ⟨v4, hw⟩ : ∃ w', w' = v3.alloc (cellRow k u (.slice A1 N d1)) := ⟨_, rfl⟩
    have RW : Hid (v4.heap[v3.heap.size]? = some (cellRow k u (.slice A1 N d1))) := by rw [hw]; exact heap_alloc_new _ _
    have bb : Below v3.heap.size v3 v4 := by rw [hw]; exact below_new (Below.refl _ _) _
    replace hw := Lib.hid hw
    replace RX := Lib.hid (row_below RX.out bb)
    replace RZ := Lib.hid (row_below RZ.out bb)
    replace RQ := Lib.hid (row_below RQ.out bb)
    replace RD := Lib.hid (RD.out.below bb)
    replace RL := Lib.hid (RL.out.below bb)
    replace HB := Lib.hid (below_then HB.out bb)
    clear bb
    go_upto_region 4 with fail
    rw [show v3.alloc (Obj.cells #[Value.int .i64 k, .int .i64 u.k, .int .i64 u.n, .string u.s, .slice A1 N d1] 26) = v4 from hw.out.symm]
    clear hw
    generalize v3.heap.size = gRW at RW ⊢
    obtain ⟨D0, D1, D2, D3, D4⟩ := HD2.out
    obtain ⟨RX0, RX1, RX2, RX3, RX4⟩ := cell_row5 RX.out
    have RZ0 := cell_row RZ.out 0
    have RZ1 := cell_row RZ.out 1
    simp only [List.getElem?_toArray, List.getElem?_cons_zero, List.getElem?_cons_succ] at RZ0 RZ1
    obtain ⟨RQ0, RQ1⟩ := dot_row RQ.out
    try dsimp only at RQ0 RQ1
    obtain ⟨RW0, RW1, RW2, RW3, RW4⟩ := cell_row5 RW.out
    have KA : Hid (∀ W, Below v4.heap.size v4 W → (Below v4.heap.size v4 W ∧ W.cell? ⟨g, 0, none⟩ = some (.int .i64 k) ∧ W.cell? ⟨g, 1, none⟩ = some (.int .i64 u.k) ∧ W.cell? ⟨g, 2, none⟩ = some (.int .i64 u.n) ∧ W.cell? ⟨g, 3, none⟩ = some (.string u.s) ∧ W.cell? ⟨g, 4, none⟩ = some (.slice A n c) ∧ W.cell? ⟨g + 1, 0, none⟩ = some (.int .i64 z0) ∧ W.cell? ⟨g + 1, 1, none⟩ = some (.int .i64 z1) ∧ W.cell? ⟨g + 2, 0, none⟩ = some (.int .i64 dx) ∧ W.cell? ⟨g + 2, 1, none⟩ = some (.int .i64 dy) ∧ W.cell? ⟨gRW, 0, none⟩ = some (.int .i64 k) ∧ W.cell? ⟨gRW, 1, none⟩ = some (.int .i64 u.k) ∧ W.cell? ⟨gRW, 2, none⟩ = some (.int .i64 u.n) ∧ W.cell? ⟨gRW, 3, none⟩ = some (.string u.s) ∧ W.cell? ⟨gRW, 4, none⟩ = some (.slice A1 N d1))) := by
      intro W hb
      have hc : ∀ (p : Addr) (y : Value), v4.cell? p = some y → W.cell? p = some y := fun p y h2 => (hb.cell (World.block_lt_of_cell? _ _ h2)).trans h2
      exact ⟨hb, hc _ _ RX0, hc _ _ RX1, hc _ _ RX2, hc _ _ RX3, hc _ _ RX4, hc _ _ RZ0, hc _ _ RZ1, hc _ _ RQ0, hc _ _ RQ1, hc _ _ RW0, hc _ _ RW1, hc _ _ RW2, hc _ _ RW3, hc _ _ RW4⟩
    clear RX0 RX1 RX2 RX3 RX4 RZ0 RZ1 RQ0 RQ1 RW0 RW1 RW2 RW3 RW4
    go_upto_region 4 with fail
    refine wp_region_noPanic ?_
    refine wp_region_held_drew (S := (fun W => Below v4.heap.size v4 W ∧ W.cell? ⟨g, 0, none⟩ = some (.int .i64 k) ∧ W.cell? ⟨g, 1, none⟩ = some (.int .i64 u.k) ∧ W.cell? ⟨g, 2, none⟩ = some (.int .i64 u.n) ∧ W.cell? ⟨g, 3, none⟩ = some (.string u.s) ∧ W.cell? ⟨g, 4, none⟩ = some (.slice A n c) ∧ W.cell? ⟨g + 1, 0, none⟩ = some (.int .i64 z0) ∧ W.cell? ⟨g + 1, 1, none⟩ = some (.int .i64 z1) ∧ W.cell? ⟨g + 2, 0, none⟩ = some (.int .i64 dx) ∧ W.cell? ⟨g + 2, 1, none⟩ = some (.int .i64 dy) ∧ W.cell? ⟨gRW, 0, none⟩ = some (.int .i64 k) ∧ W.cell? ⟨gRW, 1, none⟩ = some (.int .i64 u.k) ∧ W.cell? ⟨gRW, 2, none⟩ = some (.int .i64 u.n) ∧ W.cell? ⟨gRW, 3, none⟩ = some (.string u.s) ∧ W.cell? ⟨gRW, 4, none⟩ = some (.slice A1 N d1))) (by kernel_rfl) ?_ (fun hHeld => ?_)
    · exact KA.out _ ((Below.refl _ _).drew)
    refine wpAnyH_ready (rs := [0]) (by kernel_rfl) (by simp) (AllReadyH.cons rfl (fun K hK => ?_) AllReadyH.nil)
    go_simp
    refine (alive9_any _).mono ?_
    rintro e wx ⟨rfl, bb⟩
    (try go_wp2_with fail)
    refine hK.out _ _ ?_ (fun hHeld => ?_)
    · (try dsimp only)
      exact KA.out _ (below_then hHeld.1 bb)
    clear hK K
    (try simp only [Act.put, List.setIfInBounds_toArray, List.set_cons_zero, List.set_cons_succ])
    refine wpAnyH_one (by kernel_rfl) (fun _ _ _ _ _ h => h) (by assumption) 1 53 (some 23) ?_ _ (by rfl) (by rfl) (by kernel_rfl) (by rfl) ?_ ?_
    rotate_left 1
    · intro W hSw
      (try dsimp only at hSw)
      go_simp
      (try with_reducible rfl)
    (try simp only [Act.put, List.setIfInBounds_toArray, List.set_cons_zero, List.set_cons_succ])
    refine wpAnyH_one (by kernel_rfl) (fun _ _ _ _ _ h => h) (by assumption) 2 52 (some 24) ?_ _ (by rfl) (by rfl) (by kernel_rfl) (by rfl) ?_ ?_
    rotate_left 1
    · intro W hSw
      (try dsimp only at hSw)
      go_simp
      (try with_reducible rfl)
    (try simp only [Act.put, List.setIfInBounds_toArray, List.set_cons_zero, List.set_cons_succ])
    refine wpAnyH_one (by kernel_rfl) (fun _ _ _ _ _ h => h) (by assumption) 3 51 (some 25) ?_ _ (by rfl) (by rfl) (by kernel_rfl) (by rfl) ?_ ?_
    rotate_left 1
    · intro W hSw
      (try dsimp only at hSw)
      go_simp
      (try with_reducible rfl)
    (try simp only [Act.put, List.setIfInBounds_toArray, List.set_cons_zero, List.set_cons_succ])
    refine wpAnyH_one (by kernel_rfl) (fun _ _ _ _ _ h => h) (by assumption) 4 50 (some 26) ?_ _ (by rfl) (by rfl) (by kernel_rfl) (by rfl) ?_ ?_
    rotate_left 1
    · intro W hSw
      (try dsimp only at hSw)
      go_simp
      (try with_reducible rfl)
    (try simp only [Act.put, List.setIfInBounds_toArray, List.set_cons_zero, List.set_cons_succ])
    refine wpAnyH_ready (rs := [5]) (by kernel_rfl) (by simp) (AllReadyH.cons rfl (fun K hK => ?_) AllReadyH.nil)
    go_simp
    refine (H1.out _ _ _ (RL.out.below hHeld.1)).mono ?_
    rintro e wx ⟨rfl, bb⟩
    (try go_wp2_with fail)
    refine hK.out _ _ ?_ (fun hHeld => ?_)
    · (try dsimp only)
      exact KA.out _ (below_then hHeld.1 bb)
    clear hK K
    (try simp only [Act.put, List.setIfInBounds_toArray, List.set_cons_zero, List.set_cons_succ])
    refine wpAnyH_one (by kernel_rfl) (fun _ _ _ _ _ h => h) (by assumption) 6 48 (some 28) ?_ _ (by rfl) (by rfl) (by kernel_rfl) (by rfl) ?_ ?_
    rotate_left 1
    · intro W hSw
      (try dsimp only at hSw)
      go_simp
      (try with_reducible rfl)
    (try simp only [Act.put, List.setIfInBounds_toArray, List.set_cons_zero, List.set_cons_succ])
    refine wpAnyH_one (by kernel_rfl) (fun _ _ _ _ _ h => h) (by assumption) 7 47 (some 29) ?_ _ (by rfl) (by rfl) (by kernel_rfl) (by rfl) ?_ ?_
    rotate_left 1
    · intro W hSw
      (try dsimp only at hSw)
      go_simp
      (try with_reducible rfl)
    (try simp only [Act.put, List.setIfInBounds_toArray, List.set_cons_zero, List.set_cons_succ])
    refine wpAnyH_one (by kernel_rfl) (fun _ _ _ _ _ h => h) (by assumption) 8 46 (some 30) ?_ _ (by rfl) (by rfl) (by kernel_rfl) (by rfl) ?_ ?_
    rotate_left 1
    · intro W hSw
      (try dsimp only at hSw)
      go_simp
      (try with_reducible rfl)
    (try simp only [Act.put, List.setIfInBounds_toArray, List.set_cons_zero, List.set_cons_succ])
    refine wpAnyH_one (by kernel_rfl) (fun _ _ _ _ _ h => h) (by assumption) 9 45 (some 31) ?_ _ (by rfl) (by rfl) (by kernel_rfl) (by rfl) ?_ ?_
    rotate_left 1
    · intro W hSw
      (try dsimp only at hSw)
      go_simp
      (try with_reducible rfl)
    (try simp only [Act.put, List.setIfInBounds_toArray, List.set_cons_zero, List.set_cons_succ])
    refine wpAnyH_one (by kernel_rfl) (fun _ _ _ _ _ h => h) (by assumption) 10 44 (some 32) ?_ _ (by rfl) (by rfl) (by kernel_rfl) (by rfl) ?_ ?_
    rotate_left 1
    · intro W hSw
      (try dsimp only at hSw)
      go_simp
      (try with_reducible rfl)
    (try simp only [Act.put, List.setIfInBounds_toArray, List.set_cons_zero, List.set_cons_succ])
    refine wpAnyH_one (by kernel_rfl) (fun _ _ _ _ _ h => h) (by assumption) 11 43 (some 33) ?_ _ (by rfl) (by rfl) (by kernel_rfl) (by rfl) ?_ ?_
    rotate_left 1
    · intro W hSw
      (try dsimp only at hSw)
      go_simp
      (try with_reducible rfl)
    (try simp only [Act.put, List.setIfInBounds_toArray, List.set_cons_zero, List.set_cons_succ])
    refine wpAnyH_one (by kernel_rfl) (fun _ _ _ _ _ h => h) (by assumption) 12 42 (some 34) ?_ _ (by rfl) (by rfl) (by kernel_rfl) (by rfl) ?_ ?_
    rotate_left 1
    · intro W hSw
      (try dsimp only at hSw)
      go_simp
      (try with_reducible rfl)
    (try simp only [Act.put, List.setIfInBounds_toArray, List.set_cons_zero, List.set_cons_succ])
    refine wpAnyH_one (by kernel_rfl) (fun _ _ _ _ _ h => h) (by assumption) 13 41 (some 35) ?_ _ (by rfl) (by rfl) (by kernel_rfl) (by rfl) ?_ ?_
    rotate_left 1
    · intro W hSw
      (try dsimp only at hSw)
      go_simp
      (try with_reducible rfl)
    (try simp only [Act.put, List.setIfInBounds_toArray, List.set_cons_zero, List.set_cons_succ])
    refine wpAnyH_one (by kernel_rfl) (fun _ _ _ _ _ h => h) (by assumption) 14 40 (some 36) ?_ _ (by rfl) (by rfl) (by kernel_rfl) (by rfl) ?_ ?_
    rotate_left 1
    · intro W hSw
      (try dsimp only at hSw)
      go_simp
      (try with_reducible rfl)
    (try simp only [Act.put, List.setIfInBounds_toArray, List.set_cons_zero, List.set_cons_succ])
    refine wpAnyH_one (by kernel_rfl) (fun _ _ _ _ _ h => h) (by assumption) 15 39 (some 37) ?_ _ (by rfl) (by rfl) (by kernel_rfl) (by rfl) ?_ ?_
    rotate_left 1
    · intro W hSw
      (try dsimp only at hSw)
      go_simp
      (try with_reducible rfl)
    (try simp only [Act.put, List.setIfInBounds_toArray, List.set_cons_zero, List.set_cons_succ])
    refine wpAnyH_one (by kernel_rfl) (fun _ _ _ _ _ h => h) (by assumption) 16 38 (some 38) ?_ _ (by rfl) (by rfl) (by kernel_rfl) (by rfl) ?_ ?_
    rotate_left 1
    · intro W hSw
      (try dsimp only at hSw)
      go_simp
      (try with_reducible rfl)
    (try simp only [Act.put, List.setIfInBounds_toArray, List.set_cons_zero, List.set_cons_succ])
    refine wpAnyH_one (by kernel_rfl) (fun _ _ _ _ _ h => h) (by assumption) 18 37 (some 40) ?_ _ (by rfl) (by rfl) (by kernel_rfl) (by rfl) ?_ ?_
    rotate_left 1
    · intro W hSw
      (try dsimp only at hSw)
      go_simp
      (try with_reducible rfl)
    (try simp only [Act.put, List.setIfInBounds_toArray, List.set_cons_zero, List.set_cons_succ])
    refine wpAnyH_one (by kernel_rfl) (fun _ _ _ _ _ h => h) (by assumption) 19 36 (some 41) ?_ _ (by rfl) (by rfl) (by kernel_rfl) (by rfl) ?_ ?_
    rotate_left 1
    · intro W hSw
      (try dsimp only at hSw)
      go_simp
      (try with_reducible rfl)
    (try simp only [Act.put, List.setIfInBounds_toArray, List.set_cons_zero, List.set_cons_succ])
    refine wpAnyH_one (by kernel_rfl) (fun _ _ _ _ _ h => h) (by assumption) 20 35 (some 42) ?_ _ (by rfl) (by rfl) (by kernel_rfl) (by rfl) ?_ ?_
    rotate_left 1
    · intro W hSw
      (try dsimp only at hSw)
      go_simp
      (try with_reducible rfl)
    (try simp only [Act.put, List.setIfInBounds_toArray, List.set_cons_zero, List.set_cons_succ])
    refine wpAnyH_ready (rs := [17]) (by kernel_rfl) (by simp) (AllReadyH.cons rfl (fun K hK => ?_) AllReadyH.nil)
    go_simp
    refine (H2.out _ _ _ (RL.out.below hHeld.1)).mono ?_
    rintro e wx ⟨rfl, bb⟩
    (try go_wp2_with fail)
    refine hK.out _ _ ?_ (fun hHeld => ?_)
    · (try dsimp only)
      exact KA.out _ (below_then hHeld.1 bb)
    clear hK K
    (try simp only [Act.put, List.setIfInBounds_toArray, List.set_cons_zero, List.set_cons_succ])
    refine wpAnyH_ready (rs := [21]) (by kernel_rfl) (by simp) (AllReadyH.cons rfl (fun K hK => ?_) AllReadyH.nil)
    go_simp
    refine (H3.out _ (RD.out.below hHeld.1)).mono ?_
    rintro e wx ⟨rfl, bb⟩
    (try go_wp2_with fail)
    refine hK.out _ _ ?_ (fun hHeld => ?_)
    · (try dsimp only)
      exact KA.out _ (below_then hHeld.1 bb)
    clear hK K
    (try simp only [Act.put, List.setIfInBounds_toArray, List.set_cons_zero, List.set_cons_succ])
    refine wpAnyH_one (by kernel_rfl) (fun _ _ _ _ _ h => h) (by assumption) 22 32 (some 44) ?_ _ (by rfl) (by rfl) (by kernel_rfl) (by rfl) ?_ ?_
    rotate_left 1
    · intro W hSw
      (try dsimp only at hSw)
      go_simp
      (try with_reducible rfl)
    (try simp only [Act.put, List.setIfInBounds_toArray, List.set_cons_zero, List.set_cons_succ])
    refine wpAnyH_one (by kernel_rfl) (fun _ _ _ _ _ h => h) (by assumption) 23 31 (some 45) ?_ _ (by rfl) (by rfl) (by kernel_rfl) (by rfl) ?_ ?_
    rotate_left 1
    · intro W hSw
      (try dsimp only at hSw)
      go_simp
      (try with_reducible rfl)
    (try simp only [Act.put, List.setIfInBounds_toArray, List.set_cons_zero, List.set_cons_succ])
    refine wpAnyH_one (by kernel_rfl) (fun _ _ _ _ _ h => h) (by assumption) 24 30 (some 46) ?_ _ (by rfl) (by rfl) (by kernel_rfl) (by rfl) ?_ ?_
    rotate_left 1
    · intro W hSw
      (try dsimp only at hSw)
      go_simp
      (try with_reducible rfl)
    (try simp only [Act.put, List.setIfInBounds_toArray, List.set_cons_zero, List.set_cons_succ])
    refine wpAnyH_one (by kernel_rfl) (fun _ _ _ _ _ h => h) (by assumption) 25 29 (some 47) ?_ _ (by rfl) (by rfl) (by kernel_rfl) (by rfl) ?_ ?_
    rotate_left 1
    · intro W hSw
      (try dsimp only at hSw)
      go_simp
      (try with_reducible rfl)
    (try simp only [Act.put, List.setIfInBounds_toArray, List.set_cons_zero, List.set_cons_succ])
    refine wpAnyH_one (by kernel_rfl) (fun _ _ _ _ _ h => h) (by assumption) 26 28 (some 48) ?_ _ (by rfl) (by rfl) (by kernel_rfl) (by rfl) ?_ ?_
    rotate_left 1
    · intro W hSw
      (try dsimp only at hSw)
      go_simp
      (try with_reducible rfl)
    (try simp only [Act.put, List.setIfInBounds_toArray, List.set_cons_zero, List.set_cons_succ])
    refine wpAnyH_one (by kernel_rfl) (fun _ _ _ _ _ h => h) (by assumption) 27 27 (some 49) ?_ _ (by rfl) (by rfl) (by kernel_rfl) (by rfl) ?_ ?_
    rotate_left 1
    · intro W hSw
      (try dsimp only at hSw)
      go_simp
      (try with_reducible rfl)
    (try simp only [Act.put, List.setIfInBounds_toArray, List.set_cons_zero, List.set_cons_succ])
    refine wpAnyH_one (by kernel_rfl) (fun _ _ _ _ _ h => h) (by assumption) 28 26 (some 50) ?_ _ (by rfl) (by rfl) (by kernel_rfl) (by rfl) ?_ ?_
    rotate_left 1
    · intro W hSw
      (try dsimp only at hSw)
      go_simp
      (try with_reducible rfl)
    (try simp only [Act.put, List.setIfInBounds_toArray, List.set_cons_zero, List.set_cons_succ])
    refine wpAnyH_one (by kernel_rfl) (fun _ _ _ _ _ h => h) (by assumption) 29 25 (some 51) ?_ _ (by rfl) (by rfl) (by kernel_rfl) (by rfl) ?_ ?_
    rotate_left 1
    · intro W hSw
      (try dsimp only at hSw)
      go_simp
      (try with_reducible rfl)
    (try simp only [Act.put, List.setIfInBounds_toArray, List.set_cons_zero, List.set_cons_succ])
    refine wpAnyH_one (by kernel_rfl) (fun _ _ _ _ _ h => h) (by assumption) 31 24 (some 53) ?_ _ (by rfl) (by rfl) (by kernel_rfl) (by rfl) ?_ ?_
    rotate_left 1
    · intro W hSw
      (try dsimp only at hSw)
      go_simp
      (try with_reducible rfl)
    (try simp only [Act.put, List.setIfInBounds_toArray, List.set_cons_zero, List.set_cons_succ])
    refine wpAnyH_ready (rs := [30]) (by kernel_rfl) (by simp) (AllReadyH.cons rfl (fun K hK => ?_) AllReadyH.nil)
    go_simp
    refine (P2.out _ _ _ (RL.out.below hHeld.1)).mono ?_
    rintro e wx ⟨A2, d2, rfl, r2, bb⟩
    (try go_wp2_with fail)
    refine hK.out _ _ ?_ (fun hHeld => ?_)
    · (try dsimp only)
      exact KA.out _ (below_then hHeld.1 bb)
    clear hK K
    (try simp only [Act.put, List.setIfInBounds_toArray, List.set_cons_zero, List.set_cons_succ])
    refine wpAnyH_ready (rs := [32]) (by kernel_rfl) (by simp) (AllReadyH.cons rfl (fun K hK => ?_) AllReadyH.nil)
    go_simp
    refine (same7_is k u A2 A1 N d2 d1 L _ r2 (RL.out.below hHeld.1)).mono ?_
    rintro e wx ⟨rfl, bb⟩
    (try go_wp2_with fail)
    refine hK.out _ _ ?_ (fun hHeld => ?_)
    · (try dsimp only)
      exact KA.out _ (below_then hHeld.1 bb)
    clear hK K
    (try simp only [Act.put, List.setIfInBounds_toArray, List.set_cons_zero, List.set_cons_succ])
    refine wpAnyH_one (by kernel_rfl) (fun _ _ _ _ _ h => h) (by assumption) 33 21 (some 55) ?_ _ (by rfl) (by rfl) (by kernel_rfl) (by rfl) ?_ ?_
    rotate_left 1
    · intro W hSw
      (try dsimp only at hSw)
      go_simp
      (try with_reducible rfl)
    (try simp only [Act.put, List.setIfInBounds_toArray, List.set_cons_zero, List.set_cons_succ])
    refine wpAnyH_one (by kernel_rfl) (fun _ _ _ _ _ h => h) (by assumption) 34 20 (some 56) ?_ _ (by rfl) (by rfl) (by kernel_rfl) (by rfl) ?_ ?_
    rotate_left 1
    · intro W hSw
      (try dsimp only at hSw)
      go_simp
      (try with_reducible rfl)
    (try simp only [Act.put, List.setIfInBounds_toArray, List.set_cons_zero, List.set_cons_succ])
    refine wpAnyH_one (by kernel_rfl) (fun _ _ _ _ _ h => h) (by assumption) 35 19 (some 57) ?_ _ (by rfl) (by rfl) (by kernel_rfl) (by rfl) ?_ ?_
    rotate_left 1
    · intro W hSw
      (try dsimp only at hSw)
      go_simp
      (try with_reducible rfl)
    (try simp only [Act.put, List.setIfInBounds_toArray, List.set_cons_zero, List.set_cons_succ])
    refine wpAnyH_one (by kernel_rfl) (fun _ _ _ _ _ h => h) (by assumption) 36 18 (some 58) ?_ _ (by rfl) (by rfl) (by kernel_rfl) (by rfl) ?_ ?_
    rotate_left 1
    · intro W hSw
      (try dsimp only at hSw)
      go_simp
      (try with_reducible rfl)
    (try simp only [Act.put, List.setIfInBounds_toArray, List.set_cons_zero, List.set_cons_succ])
    refine wpAnyH_one (by kernel_rfl) (fun _ _ _ _ _ h => h) (by assumption) 37 17 (some 59) ?_ _ (by rfl) (by rfl) (by kernel_rfl) (by rfl) ?_ ?_
    rotate_left 1
    · intro W hSw
      (try dsimp only at hSw)
      go_simp
      (try with_reducible rfl)
    (try simp only [Act.put, List.setIfInBounds_toArray, List.set_cons_zero, List.set_cons_succ])
    refine wpAnyH_one (by kernel_rfl) (fun _ _ _ _ _ h => h) (by assumption) 38 16 (some 60) ?_ _ (by rfl) (by rfl) (by kernel_rfl) (by rfl) ?_ ?_
    rotate_left 1
    · intro W hSw
      (try dsimp only at hSw)
      go_simp
      (try with_reducible rfl)
    (try simp only [Act.put, List.setIfInBounds_toArray, List.set_cons_zero, List.set_cons_succ])
    refine wpAnyH_one (by kernel_rfl) (fun _ _ _ _ _ h => h) (by assumption) 39 15 (some 61) ?_ _ (by rfl) (by rfl) (by kernel_rfl) (by rfl) ?_ ?_
    rotate_left 1
    · intro W hSw
      (try dsimp only at hSw)
      go_simp
      (try with_reducible rfl)
    (try simp only [Act.put, List.setIfInBounds_toArray, List.set_cons_zero, List.set_cons_succ])
    refine wpAnyH_one (by kernel_rfl) (fun _ _ _ _ _ h => h) (by assumption) 40 14 (some 62) ?_ _ (by rfl) (by rfl) (by kernel_rfl) (by rfl) ?_ ?_
    rotate_left 1
    · intro W hSw
      (try dsimp only at hSw)
      go_simp
      (try with_reducible rfl)
    (try simp only [Act.put, List.setIfInBounds_toArray, List.set_cons_zero, List.set_cons_succ])
    refine wpAnyH_one (by kernel_rfl) (fun _ _ _ _ _ h => h) (by assumption) 41 13 (some 63) ?_ _ (by rfl) (by rfl) (by kernel_rfl) (by rfl) ?_ ?_
    rotate_left 1
    · intro W hSw
      (try dsimp only at hSw)
      go_simp
      (try with_reducible rfl)
    (try simp only [Act.put, List.setIfInBounds_toArray, List.set_cons_zero, List.set_cons_succ])
    refine wpAnyH_one (by kernel_rfl) (fun _ _ _ _ _ h => h) (by assumption) 42 12 (some 64) ?_ _ (by rfl) (by rfl) (by kernel_rfl) (by rfl) ?_ ?_
    rotate_left 1
    · intro W hSw
      (try dsimp only at hSw)
      go_simp
      (try with_reducible rfl)
    (try simp only [Act.put, List.setIfInBounds_toArray, List.set_cons_zero, List.set_cons_succ])
    refine wpAnyH_one (by kernel_rfl) (fun _ _ _ _ _ h => h) (by assumption) 43 11 (some 65) ?_ _ (by rfl) (by rfl) (by kernel_rfl) (by rfl) ?_ ?_
    rotate_left 1
    · intro W hSw
      (try dsimp only at hSw)
      go_simp
      (try with_reducible rfl)
    (try simp only [Act.put, List.setIfInBounds_toArray, List.set_cons_zero, List.set_cons_succ])
    refine wpAnyH_one (by kernel_rfl) (fun _ _ _ _ _ h => h) (by assumption) 44 10 (some 66) ?_ _ (by rfl) (by rfl) (by kernel_rfl) (by rfl) ?_ ?_
    rotate_left 1
    · intro W hSw
      (try dsimp only at hSw)
      go_simp
      (try with_reducible rfl)
    (try simp only [Act.put, List.setIfInBounds_toArray, List.set_cons_zero, List.set_cons_succ])
    refine wpAnyH_one (by kernel_rfl) (fun _ _ _ _ _ h => h) (by assumption) 45 9 (some 67) ?_ _ (by rfl) (by rfl) (by kernel_rfl) (by rfl) ?_ ?_
    rotate_left 1
    · intro W hSw
      (try dsimp only at hSw)
      go_simp
      (try with_reducible rfl)
    (try simp only [Act.put, List.setIfInBounds_toArray, List.set_cons_zero, List.set_cons_succ])
    refine wpAnyH_one (by kernel_rfl) (fun _ _ _ _ _ h => h) (by assumption) 46 8 (some 68) ?_ _ (by rfl) (by rfl) (by kernel_rfl) (by rfl) ?_ ?_
    rotate_left 1
    · intro W hSw
      (try dsimp only at hSw)
      go_simp
      (try with_reducible rfl)
    (try simp only [Act.put, List.setIfInBounds_toArray, List.set_cons_zero, List.set_cons_succ])
    refine wpAnyH_one (by kernel_rfl) (fun _ _ _ _ _ h => h) (by assumption) 47 7 (some 69) ?_ _ (by rfl) (by rfl) (by kernel_rfl) (by rfl) ?_ ?_
    rotate_left 1
    · intro W hSw
      (try dsimp only at hSw)
      go_simp
      (try with_reducible rfl)
    (try simp only [Act.put, List.setIfInBounds_toArray, List.set_cons_zero, List.set_cons_succ])
    refine wpAnyH_one (by kernel_rfl) (fun _ _ _ _ _ h => h) (by assumption) 48 6 (some 70) ?_ _ (by rfl) (by rfl) (by kernel_rfl) (by rfl) ?_ ?_
    rotate_left 1
    · intro W hSw
      (try dsimp only at hSw)
      go_simp
      (try with_reducible rfl)
    (try simp only [Act.put, List.setIfInBounds_toArray, List.set_cons_zero, List.set_cons_succ])
    refine wpAnyH_one (by kernel_rfl) (fun _ _ _ _ _ h => h) (by assumption) 49 5 (some 71) ?_ _ (by rfl) (by rfl) (by kernel_rfl) (by rfl) ?_ ?_
    rotate_left 1
    · intro W hSw
      (try dsimp only at hSw)
      go_simp
      (try with_reducible rfl)
    (try simp only [Act.put, List.setIfInBounds_toArray, List.set_cons_zero, List.set_cons_succ])
    refine wpAnyH_one (by kernel_rfl) (fun _ _ _ _ _ h => h) (by assumption) 50 4 (some 72) ?_ _ (by rfl) (by rfl) (by kernel_rfl) (by rfl) ?_ ?_
    rotate_left 1
    · intro W hSw
      (try dsimp only at hSw)
      go_simp
      (try with_reducible rfl)
    (try simp only [Act.put, List.setIfInBounds_toArray, List.set_cons_zero, List.set_cons_succ])
    refine wpAnyH_one (by kernel_rfl) (fun _ _ _ _ _ h => h) (by assumption) 51 3 (some 73) ?_ _ (by rfl) (by rfl) (by kernel_rfl) (by rfl) ?_ ?_
    rotate_left 1
    · intro W hSw
      (try dsimp only at hSw)
      go_simp
      (try with_reducible rfl)
    (try simp only [Act.put, List.setIfInBounds_toArray, List.set_cons_zero, List.set_cons_succ])
    refine wpAnyH_one (by kernel_rfl) (fun _ _ _ _ _ h => h) (by assumption) 52 2 (some 74) ?_ _ (by rfl) (by rfl) (by kernel_rfl) (by rfl) ?_ ?_
    rotate_left 1
    · intro W hSw
      (try dsimp only at hSw)
      go_simp
      (try with_reducible rfl)
    (try simp only [Act.put, List.setIfInBounds_toArray, List.set_cons_zero, List.set_cons_succ])
    refine wpAnyH_one (by kernel_rfl) (fun _ _ _ _ _ h => h) (by assumption) 53 1 (some 75) ?_ _ (by rfl) (by rfl) (by kernel_rfl) (by rfl) ?_ ?_
    rotate_left 1
    · intro W hSw
      (try dsimp only at hSw)
      go_simp
      (try with_reducible rfl)
    (try simp only [Act.put, List.setIfInBounds_toArray, List.set_cons_zero, List.set_cons_succ])
    refine wpAnyH_one (by kernel_rfl) (fun _ _ _ _ _ h => h) (by assumption) 54 0 (some 6) ?_ _ (by rfl) (by rfl) (by kernel_rfl) (by rfl) ?_ ?_
    rotate_left 1
    · intro W hSw
      (try dsimp only at hSw)
      go_simp
      (try with_reducible rfl)
    (try simp only [Act.put, List.setIfInBounds_toArray, List.set_cons_zero, List.set_cons_succ])
    refine wpAnyH_done (by kernel_rfl) ?_ _
    refine NoPanic.normal ?_
    (try simp only [Act.put, List.setIfInBounds_toArray, List.set_cons_zero, List.set_cons_succ])
    have HZ := Lib.hid (below_then HB.out hHeld.1)
    go_wp2_with fail
    go_ret
    exact ⟨rfl, HZ.out⟩
  · subst hz
    have FW : Hid (∀ W : World, Calls Try.prog 17 #[cellV k u (.slice A n c)] W fun e w' => e = .returned (.bool true) ∧ Below W.heap.size W w') := by
      intro W
      have := few9_any k u A n c W
      rwa [decide_eq_true (by omega)] at this
    obtain ⟨L, hL⟩ : ∃ L, Hid (putB l ⟨z0, ⟨dx, dy⟩⟩ = L) := ⟨_, rfl⟩
    obtain ⟨N, hNN⟩ : ∃ N, Hid (L.length = N) := ⟨_, rfl⟩
    have hn6 : n ≤ 4294967000 := by omega
    have hN6 : Hid (N = n ∨ N = n + 1) := by
      show _ ∨ _
      rw [← hNN.out, ← hL.out, ← HLN.out]; exact putB_len _ _
    have h2L : Hid (putB L ⟨z0, ⟨dx, dy⟩⟩ = L) := by show _ = _; rw [← hL.out]; exact putB_twice _ _
    have hNn : N ≤ 4294967000 := by have := hN6.out; omega
    have H1 : Hid (∀ (A1 : Option Addr) (d1 : Nat) (W : World), RdP W A1 N d1 L → Calls Try.prog 23 #[cellV k u (.slice A1 N d1), .int .i64 z0] W fun e w' => e = .returned (.bool true) ∧ Below W.heap.size W w') := by
      intro A1 d1 W hW
      have := hasB_any k u A1 N d1 L z0 W hW
      rw [show hasB L z0 = true by rw [← hL.out, hasB_putB]; simp] at this
      exact this
    have P1 : Hid (∀ W : World, RdP W A n c l → Calls Try.prog 22 #[cellV k u (.slice A n c), .int .i64 z0, .agg #[.int .i64 dx, .int .i64 dy]] W fun e w' => ∃ A' c', e = .returned (cellV k u (.slice A' N c')) ∧ RdP w' A' N c' L ∧ Below W.heap.size W w') := by
      intro W hW
      have := putB_any k u A n c l z0 ⟨dx, dy⟩ W hW (by omega)
      rw [hL.out, hNN.out] at this
      exact this
    have P2 : Hid (∀ (A1 : Option Addr) (d1 : Nat) (W : World), RdP W A1 N d1 L → Calls Try.prog 22 #[cellV k u (.slice A1 N d1), .int .i64 z0, .agg #[.int .i64 dx, .int .i64 dy]] W fun e w' => ∃ A' c', e = .returned (cellV k u (.slice A' N c')) ∧ RdP w' A' N c' L ∧ Below W.heap.size W w') := by
      intro A1 d1 W hW
      have := putB_any k u A1 N d1 L z0 ⟨dx, dy⟩ W hW (by omega)
      rw [h2L.out, hNN.out] at this
      exact this
    obtain ⟨D, hD⟩ : ∃ D : Int, D = (N : Int) - (n : Int) := ⟨_, rfl⟩
    have D0 : 0 ≤ D := by have := hN6.out; omega
    have D1 : D ≤ 1 := by have := hN6.out; omega
    have D2 : IntKind.i64.wrap ((N : Int) - (n : Int)) = D := by rw [← hD]; exact wrap_is (by omega)
    have D3 : decide (0 ≤ D) = true := decide_eq_true D0
    have D4 : decide (D ≤ 1) = true := decide_eq_true D1
    have HD2 := Lib.hid (And.intro D0 (And.intro D1 (And.intro D2 (And.intro D3 D4))))
    clear D0 D1 D2 D3 D4 hD hN6 h2L hNn hn6 hn hL hNN HLN hr
    obtain ⟨g, hg⟩ : ∃ g, g = w.heap.size := ⟨_, rfl⟩
    obtain ⟨w0, hw0⟩ : ∃ w1, w1 = (((w.alloc (cellRow k u (.slice A n c))).alloc (.cells #[.int .i64 z0, .int .i64 z0] 44)).alloc (dotRow ⟨dx, dy⟩)) := ⟨_, rfl⟩
    have HW0 := Lib.hid hw0; have HG := Lib.hid hg
    have hat : ∀ (w : World) (o : Obj) (g : Nat), w.heap.size = g → (w.alloc o).heap[g]? = some o := fun w o g h => by subst h; exact heap_alloc_new _ _
    have bb : Below w.heap.size w w0 := by rw [hw0]; exact below_new (below_new (below_new (Below.refl _ _) _) _) _
    have RX : Hid (w0.heap[g]? = some (cellRow k u (.slice A n c))) := by
      show _ = _
      rw [hw0, hg]
      rw [Below.heap_alloc _ _ _ (by simp only [World.size_alloc]; omega), Below.heap_alloc _ _ _ (by simp only [World.size_alloc]; omega)]
      exact hat _ _ _ rfl
    have RZ : Hid (w0.heap[g + 1]? = some (.cells #[.int .i64 z0, .int .i64 z0] 44)) := by
      show _ = _
      rw [hw0, hg]
      rw [Below.heap_alloc _ _ _ (by simp only [World.size_alloc]; omega)]
      exact hat _ _ _ (by simp only [World.size_alloc])
    have RQ : Hid (w0.heap[g + 2]? = some (dotRow ⟨dx, dy⟩)) := by
      show _ = _
      rw [hw0, hg]
      skip
      exact hat _ _ _ (by simp only [World.size_alloc])
    replace RD := Lib.hid (RD.out.below bb)
    replace HB := Lib.hid (below_then HB.out bb)
    clear bb hg hw0 hat
    go_enter Try.func5, Try.ntmps5
    go_upto_region 1 with fail
    rw [← HG.out]
    rw [show (((w.alloc (Obj.cells #[Value.int .i64 k, .int .i64 u.k, .int .i64 u.n, .string u.s, .slice A n c] 26)).alloc (Obj.cells #[Value.int .i64 z0, .int .i64 z0] 44)).alloc (Obj.cells #[Value.int .i64 dx, .int .i64 dy] 28)) = w0 from HW0.out.symm]
    clear HW0
    obtain ⟨RX0, RX1, RX2, RX3, RX4⟩ := cell_row5 RX.out
    go_wp2_with fail
    refine (FW.out _).mono ?_
    rintro e v1 ⟨rfl, bb⟩
    replace RX := Lib.hid (row_below RX.out bb)
    replace RZ := Lib.hid (row_below RZ.out bb)
    replace RQ := Lib.hid (row_below RQ.out bb)
    replace RD := Lib.hid (RD.out.below bb)
    replace HB := Lib.hid (below_then HB.out bb)
    clear bb
    clear RX0 RX1 RX2 RX3 RX4
    obtain ⟨RX0, RX1, RX2, RX3, RX4⟩ := cell_row5 RX.out
    go_wp2_with fail
    refine (CR.out _ RD.out).mono ?_
    rintro e v2 ⟨rfl, bb⟩
    replace RX := Lib.hid (row_below RX.out bb)
    replace RZ := Lib.hid (row_below RZ.out bb)
    replace RQ := Lib.hid (row_below RQ.out bb)
    replace RD := Lib.hid (RD.out.below bb)
    replace HB := Lib.hid (below_then HB.out bb)
    clear bb
    clear RX0 RX1 RX2 RX3 RX4
    obtain ⟨RX0, RX1, RX2, RX3, RX4⟩ := cell_row5 RX.out
    have RZ0 := cell_row RZ.out 0
    have RZ1 := cell_row RZ.out 1
    simp only [List.getElem?_toArray, List.getElem?_cons_zero, List.getElem?_cons_succ] at RZ0 RZ1
    obtain ⟨RQ0, RQ1⟩ := dot_row RQ.out
    try dsimp only at RQ0 RQ1
    go_wp2_with fail
    refine (P1.out _ RD.out).mono ?_
    rintro e v3 ⟨A1, d1, rfl, hrl, bb⟩
    replace RX := Lib.hid (row_below RX.out bb)
    replace RZ := Lib.hid (row_below RZ.out bb)
    replace RQ := Lib.hid (row_below RQ.out bb)
    replace RD := Lib.hid (RD.out.below bb)
    replace HB := Lib.hid (below_then HB.out bb)
    clear bb
    have RL := Lib.hid hrl
    clear hrl
    clear RX0 RX1 RX2 RX3 RX4 RZ0 RZ1 RQ0 RQ1
    obtain ⟨v4, hw⟩ : ∃ w', w' = v3.alloc (cellRow k u (.slice A1 N d1)) := ⟨_, rfl⟩
    have RW : Hid (v4.heap[v3.heap.size]? = some (cellRow k u (.slice A1 N d1))) := by rw [hw]; exact heap_alloc_new _ _
    have bb : Below v3.heap.size v3 v4 := by rw [hw]; exact below_new (Below.refl _ _) _
    replace hw := Lib.hid hw
    replace RX := Lib.hid (row_below RX.out bb)
    replace RZ := Lib.hid (row_below RZ.out bb)
    replace RQ := Lib.hid (row_below RQ.out bb)
    replace RD := Lib.hid (RD.out.below bb)
    replace RL := Lib.hid (RL.out.below bb)
    replace HB := Lib.hid (below_then HB.out bb)
    clear bb
    go_upto_region 4 with fail
    rw [show v3.alloc (Obj.cells #[Value.int .i64 k, .int .i64 u.k, .int .i64 u.n, .string u.s, .slice A1 N d1] 26) = v4 from hw.out.symm]
    clear hw
    generalize v3.heap.size = gRW at RW ⊢
    obtain ⟨D0, D1, D2, D3, D4⟩ := HD2.out
    obtain ⟨RX0, RX1, RX2, RX3, RX4⟩ := cell_row5 RX.out
    have RZ0 := cell_row RZ.out 0
    have RZ1 := cell_row RZ.out 1
    simp only [List.getElem?_toArray, List.getElem?_cons_zero, List.getElem?_cons_succ] at RZ0 RZ1
    obtain ⟨RQ0, RQ1⟩ := dot_row RQ.out
    try dsimp only at RQ0 RQ1
    obtain ⟨RW0, RW1, RW2, RW3, RW4⟩ := cell_row5 RW.out
    have KA : Hid (∀ W, Below v4.heap.size v4 W → (Below v4.heap.size v4 W ∧ W.cell? ⟨g, 0, none⟩ = some (.int .i64 k) ∧ W.cell? ⟨g, 1, none⟩ = some (.int .i64 u.k) ∧ W.cell? ⟨g, 2, none⟩ = some (.int .i64 u.n) ∧ W.cell? ⟨g, 3, none⟩ = some (.string u.s) ∧ W.cell? ⟨g, 4, none⟩ = some (.slice A n c) ∧ W.cell? ⟨g + 1, 0, none⟩ = some (.int .i64 z0) ∧ W.cell? ⟨g + 1, 1, none⟩ = some (.int .i64 z0) ∧ W.cell? ⟨g + 2, 0, none⟩ = some (.int .i64 dx) ∧ W.cell? ⟨g + 2, 1, none⟩ = some (.int .i64 dy) ∧ W.cell? ⟨gRW, 0, none⟩ = some (.int .i64 k) ∧ W.cell? ⟨gRW, 1, none⟩ = some (.int .i64 u.k) ∧ W.cell? ⟨gRW, 2, none⟩ = some (.int .i64 u.n) ∧ W.cell? ⟨gRW, 3, none⟩ = some (.string u.s) ∧ W.cell? ⟨gRW, 4, none⟩ = some (.slice A1 N d1))) := by
      intro W hb
      have hc : ∀ (p : Addr) (y : Value), v4.cell? p = some y → W.cell? p = some y := fun p y h2 => (hb.cell (World.block_lt_of_cell? _ _ h2)).trans h2
      exact ⟨hb, hc _ _ RX0, hc _ _ RX1, hc _ _ RX2, hc _ _ RX3, hc _ _ RX4, hc _ _ RZ0, hc _ _ RZ1, hc _ _ RQ0, hc _ _ RQ1, hc _ _ RW0, hc _ _ RW1, hc _ _ RW2, hc _ _ RW3, hc _ _ RW4⟩
    clear RX0 RX1 RX2 RX3 RX4 RZ0 RZ1 RQ0 RQ1 RW0 RW1 RW2 RW3 RW4
    go_upto_region 4 with fail
    refine wp_region_noPanic ?_
    refine wp_region_held_drew (S := (fun W => Below v4.heap.size v4 W ∧ W.cell? ⟨g, 0, none⟩ = some (.int .i64 k) ∧ W.cell? ⟨g, 1, none⟩ = some (.int .i64 u.k) ∧ W.cell? ⟨g, 2, none⟩ = some (.int .i64 u.n) ∧ W.cell? ⟨g, 3, none⟩ = some (.string u.s) ∧ W.cell? ⟨g, 4, none⟩ = some (.slice A n c) ∧ W.cell? ⟨g + 1, 0, none⟩ = some (.int .i64 z0) ∧ W.cell? ⟨g + 1, 1, none⟩ = some (.int .i64 z0) ∧ W.cell? ⟨g + 2, 0, none⟩ = some (.int .i64 dx) ∧ W.cell? ⟨g + 2, 1, none⟩ = some (.int .i64 dy) ∧ W.cell? ⟨gRW, 0, none⟩ = some (.int .i64 k) ∧ W.cell? ⟨gRW, 1, none⟩ = some (.int .i64 u.k) ∧ W.cell? ⟨gRW, 2, none⟩ = some (.int .i64 u.n) ∧ W.cell? ⟨gRW, 3, none⟩ = some (.string u.s) ∧ W.cell? ⟨gRW, 4, none⟩ = some (.slice A1 N d1))) (by kernel_rfl) ?_ (fun hHeld => ?_)
    · exact KA.out _ ((Below.refl _ _).drew)
    refine wpAnyH_ready (rs := [0]) (by kernel_rfl) (by simp) (AllReadyH.cons rfl (fun K hK => ?_) AllReadyH.nil)
    go_simp
    refine (alive9_any _).mono ?_
    rintro e wx ⟨rfl, bb⟩
    (try go_wp2_with fail)
    refine hK.out _ _ ?_ (fun hHeld => ?_)
    · (try dsimp only)
      exact KA.out _ (below_then hHeld.1 bb)
    clear hK K
    (try simp only [Act.put, List.setIfInBounds_toArray, List.set_cons_zero, List.set_cons_succ])
    refine wpAnyH_one (by kernel_rfl) (fun _ _ _ _ _ h => h) (by assumption) 1 53 (some 23) ?_ _ (by rfl) (by rfl) (by kernel_rfl) (by rfl) ?_ ?_
    rotate_left 1
    · intro W hSw
      (try dsimp only at hSw)
      go_simp
      (try with_reducible rfl)
    (try simp only [Act.put, List.setIfInBounds_toArray, List.set_cons_zero, List.set_cons_succ])
    refine wpAnyH_one (by kernel_rfl) (fun _ _ _ _ _ h => h) (by assumption) 2 52 (some 24) ?_ _ (by rfl) (by rfl) (by kernel_rfl) (by rfl) ?_ ?_
    rotate_left 1
    · intro W hSw
      (try dsimp only at hSw)
      go_simp
      (try with_reducible rfl)
    (try simp only [Act.put, List.setIfInBounds_toArray, List.set_cons_zero, List.set_cons_succ])
    refine wpAnyH_one (by kernel_rfl) (fun _ _ _ _ _ h => h) (by assumption) 3 51 (some 25) ?_ _ (by rfl) (by rfl) (by kernel_rfl) (by rfl) ?_ ?_
    rotate_left 1
    · intro W hSw
      (try dsimp only at hSw)
      go_simp
      (try with_reducible rfl)
    (try simp only [Act.put, List.setIfInBounds_toArray, List.set_cons_zero, List.set_cons_succ])
    refine wpAnyH_one (by kernel_rfl) (fun _ _ _ _ _ h => h) (by assumption) 4 50 (some 26) ?_ _ (by rfl) (by rfl) (by kernel_rfl) (by rfl) ?_ ?_
    rotate_left 1
    · intro W hSw
      (try dsimp only at hSw)
      go_simp
      (try with_reducible rfl)
    (try simp only [Act.put, List.setIfInBounds_toArray, List.set_cons_zero, List.set_cons_succ])
    refine wpAnyH_ready (rs := [5]) (by kernel_rfl) (by simp) (AllReadyH.cons rfl (fun K hK => ?_) AllReadyH.nil)
    go_simp
    refine (H1.out _ _ _ (RL.out.below hHeld.1)).mono ?_
    rintro e wx ⟨rfl, bb⟩
    (try go_wp2_with fail)
    refine hK.out _ _ ?_ (fun hHeld => ?_)
    · (try dsimp only)
      exact KA.out _ (below_then hHeld.1 bb)
    clear hK K
    (try simp only [Act.put, List.setIfInBounds_toArray, List.set_cons_zero, List.set_cons_succ])
    refine wpAnyH_one (by kernel_rfl) (fun _ _ _ _ _ h => h) (by assumption) 6 48 (some 28) ?_ _ (by rfl) (by rfl) (by kernel_rfl) (by rfl) ?_ ?_
    rotate_left 1
    · intro W hSw
      (try dsimp only at hSw)
      go_simp
      (try with_reducible rfl)
    (try simp only [Act.put, List.setIfInBounds_toArray, List.set_cons_zero, List.set_cons_succ])
    refine wpAnyH_one (by kernel_rfl) (fun _ _ _ _ _ h => h) (by assumption) 7 47 (some 29) ?_ _ (by rfl) (by rfl) (by kernel_rfl) (by rfl) ?_ ?_
    rotate_left 1
    · intro W hSw
      (try dsimp only at hSw)
      go_simp
      (try with_reducible rfl)
    (try simp only [Act.put, List.setIfInBounds_toArray, List.set_cons_zero, List.set_cons_succ])
    refine wpAnyH_one (by kernel_rfl) (fun _ _ _ _ _ h => h) (by assumption) 8 46 (some 30) ?_ _ (by rfl) (by rfl) (by kernel_rfl) (by rfl) ?_ ?_
    rotate_left 1
    · intro W hSw
      (try dsimp only at hSw)
      go_simp
      (try with_reducible rfl)
    (try simp only [Act.put, List.setIfInBounds_toArray, List.set_cons_zero, List.set_cons_succ])
    refine wpAnyH_one (by kernel_rfl) (fun _ _ _ _ _ h => h) (by assumption) 9 45 (some 31) ?_ _ (by rfl) (by rfl) (by kernel_rfl) (by rfl) ?_ ?_
    rotate_left 1
    · intro W hSw
      (try dsimp only at hSw)
      go_simp
      (try with_reducible rfl)
    (try simp only [Act.put, List.setIfInBounds_toArray, List.set_cons_zero, List.set_cons_succ])
    refine wpAnyH_one (by kernel_rfl) (fun _ _ _ _ _ h => h) (by assumption) 10 44 (some 32) ?_ _ (by rfl) (by rfl) (by kernel_rfl) (by rfl) ?_ ?_
    rotate_left 1
    · intro W hSw
      (try dsimp only at hSw)
      go_simp
      (try with_reducible rfl)
    (try simp only [Act.put, List.setIfInBounds_toArray, List.set_cons_zero, List.set_cons_succ])
    refine wpAnyH_one (by kernel_rfl) (fun _ _ _ _ _ h => h) (by assumption) 11 43 (some 33) ?_ _ (by rfl) (by rfl) (by kernel_rfl) (by rfl) ?_ ?_
    rotate_left 1
    · intro W hSw
      (try dsimp only at hSw)
      go_simp
      (try with_reducible rfl)
    (try simp only [Act.put, List.setIfInBounds_toArray, List.set_cons_zero, List.set_cons_succ])
    refine wpAnyH_one (by kernel_rfl) (fun _ _ _ _ _ h => h) (by assumption) 12 42 (some 34) ?_ _ (by rfl) (by rfl) (by kernel_rfl) (by rfl) ?_ ?_
    rotate_left 1
    · intro W hSw
      (try dsimp only at hSw)
      go_simp
      (try with_reducible rfl)
    (try simp only [Act.put, List.setIfInBounds_toArray, List.set_cons_zero, List.set_cons_succ])
    refine wpAnyH_one (by kernel_rfl) (fun _ _ _ _ _ h => h) (by assumption) 13 41 (some 35) ?_ _ (by rfl) (by rfl) (by kernel_rfl) (by rfl) ?_ ?_
    rotate_left 1
    · intro W hSw
      (try dsimp only at hSw)
      go_simp
      (try with_reducible rfl)
    (try simp only [Act.put, List.setIfInBounds_toArray, List.set_cons_zero, List.set_cons_succ])
    refine wpAnyH_puts (by kernel_rfl) (fun _ _ _ _ _ h => h) (by assumption) [14, 15, 16, 17, 18, 19, 20, 21, 22] 32 [(some 36, undef), (some 37, undef), (some 38, undef), (some 39, undef), (some 40, undef), (some 41, undef), (some 42, undef), (some 43, undef), (some 44, undef)] (by kernel_rfl) (by kernel_rfl) ?_
    (try simp only [putsOf, Act.put, List.setIfInBounds_toArray, List.set_cons_zero, List.set_cons_succ])
    refine wpAnyH_one (by kernel_rfl) (fun _ _ _ _ _ h => h) (by assumption) 23 31 (some 45) ?_ _ (by rfl) (by rfl) (by kernel_rfl) (by rfl) ?_ ?_
    rotate_left 1
    · intro W hSw
      (try dsimp only at hSw)
      go_simp
      (try with_reducible rfl)
    (try simp only [Act.put, List.setIfInBounds_toArray, List.set_cons_zero, List.set_cons_succ])
    refine wpAnyH_one (by kernel_rfl) (fun _ _ _ _ _ h => h) (by assumption) 24 30 (some 46) ?_ _ (by rfl) (by rfl) (by kernel_rfl) (by rfl) ?_ ?_
    rotate_left 1
    · intro W hSw
      (try dsimp only at hSw)
      go_simp
      (try with_reducible rfl)
    (try simp only [Act.put, List.setIfInBounds_toArray, List.set_cons_zero, List.set_cons_succ])
    refine wpAnyH_one (by kernel_rfl) (fun _ _ _ _ _ h => h) (by assumption) 25 29 (some 47) ?_ _ (by rfl) (by rfl) (by kernel_rfl) (by rfl) ?_ ?_
    rotate_left 1
    · intro W hSw
      (try dsimp only at hSw)
      go_simp
      (try with_reducible rfl)
    (try simp only [Act.put, List.setIfInBounds_toArray, List.set_cons_zero, List.set_cons_succ])
    refine wpAnyH_one (by kernel_rfl) (fun _ _ _ _ _ h => h) (by assumption) 26 28 (some 48) ?_ _ (by rfl) (by rfl) (by kernel_rfl) (by rfl) ?_ ?_
    rotate_left 1
    · intro W hSw
      (try dsimp only at hSw)
      go_simp
      (try with_reducible rfl)
    (try simp only [Act.put, List.setIfInBounds_toArray, List.set_cons_zero, List.set_cons_succ])
    refine wpAnyH_one (by kernel_rfl) (fun _ _ _ _ _ h => h) (by assumption) 27 27 (some 49) ?_ _ (by rfl) (by rfl) (by kernel_rfl) (by rfl) ?_ ?_
    rotate_left 1
    · intro W hSw
      (try dsimp only at hSw)
      go_simp
      (try with_reducible rfl)
    (try simp only [Act.put, List.setIfInBounds_toArray, List.set_cons_zero, List.set_cons_succ])
    refine wpAnyH_one (by kernel_rfl) (fun _ _ _ _ _ h => h) (by assumption) 28 26 (some 50) ?_ _ (by rfl) (by rfl) (by kernel_rfl) (by rfl) ?_ ?_
    rotate_left 1
    · intro W hSw
      (try dsimp only at hSw)
      go_simp
      (try with_reducible rfl)
    (try simp only [Act.put, List.setIfInBounds_toArray, List.set_cons_zero, List.set_cons_succ])
    refine wpAnyH_one (by kernel_rfl) (fun _ _ _ _ _ h => h) (by assumption) 29 25 (some 51) ?_ _ (by rfl) (by rfl) (by kernel_rfl) (by rfl) ?_ ?_
    rotate_left 1
    · intro W hSw
      (try dsimp only at hSw)
      go_simp
      (try with_reducible rfl)
    (try simp only [Act.put, List.setIfInBounds_toArray, List.set_cons_zero, List.set_cons_succ])
    refine wpAnyH_one (by kernel_rfl) (fun _ _ _ _ _ h => h) (by assumption) 31 24 (some 53) ?_ _ (by rfl) (by rfl) (by kernel_rfl) (by rfl) ?_ ?_
    rotate_left 1
    · intro W hSw
      (try dsimp only at hSw)
      go_simp
      (try with_reducible rfl)
    (try simp only [Act.put, List.setIfInBounds_toArray, List.set_cons_zero, List.set_cons_succ])
    refine wpAnyH_ready (rs := [30]) (by kernel_rfl) (by simp) (AllReadyH.cons rfl (fun K hK => ?_) AllReadyH.nil)
    go_simp
    refine (P2.out _ _ _ (RL.out.below hHeld.1)).mono ?_
    rintro e wx ⟨A2, d2, rfl, r2, bb⟩
    (try go_wp2_with fail)
    refine hK.out _ _ ?_ (fun hHeld => ?_)
    · (try dsimp only)
      exact KA.out _ (below_then hHeld.1 bb)
    clear hK K
    (try simp only [Act.put, List.setIfInBounds_toArray, List.set_cons_zero, List.set_cons_succ])
    refine wpAnyH_ready (rs := [32]) (by kernel_rfl) (by simp) (AllReadyH.cons rfl (fun K hK => ?_) AllReadyH.nil)
    go_simp
    refine (same7_is k u A2 A1 N d2 d1 L _ r2 (RL.out.below hHeld.1)).mono ?_
    rintro e wx ⟨rfl, bb⟩
    (try go_wp2_with fail)
    refine hK.out _ _ ?_ (fun hHeld => ?_)
    · (try dsimp only)
      exact KA.out _ (below_then hHeld.1 bb)
    clear hK K
    (try simp only [Act.put, List.setIfInBounds_toArray, List.set_cons_zero, List.set_cons_succ])
    refine wpAnyH_one (by kernel_rfl) (fun _ _ _ _ _ h => h) (by assumption) 33 21 (some 55) ?_ _ (by rfl) (by rfl) (by kernel_rfl) (by rfl) ?_ ?_
    rotate_left 1
    · intro W hSw
      (try dsimp only at hSw)
      go_simp
      (try with_reducible rfl)
    (try simp only [Act.put, List.setIfInBounds_toArray, List.set_cons_zero, List.set_cons_succ])
    refine wpAnyH_one (by kernel_rfl) (fun _ _ _ _ _ h => h) (by assumption) 34 20 (some 56) ?_ _ (by rfl) (by rfl) (by kernel_rfl) (by rfl) ?_ ?_
    rotate_left 1
    · intro W hSw
      (try dsimp only at hSw)
      go_simp
      (try with_reducible rfl)
    (try simp only [Act.put, List.setIfInBounds_toArray, List.set_cons_zero, List.set_cons_succ])
    refine wpAnyH_one (by kernel_rfl) (fun _ _ _ _ _ h => h) (by assumption) 35 19 (some 57) ?_ _ (by rfl) (by rfl) (by kernel_rfl) (by rfl) ?_ ?_
    rotate_left 1
    · intro W hSw
      (try dsimp only at hSw)
      go_simp
      (try with_reducible rfl)
    (try simp only [Act.put, List.setIfInBounds_toArray, List.set_cons_zero, List.set_cons_succ])
    refine wpAnyH_one (by kernel_rfl) (fun _ _ _ _ _ h => h) (by assumption) 36 18 (some 58) ?_ _ (by rfl) (by rfl) (by kernel_rfl) (by rfl) ?_ ?_
    rotate_left 1
    · intro W hSw
      (try dsimp only at hSw)
      go_simp
      (try with_reducible rfl)
    (try simp only [Act.put, List.setIfInBounds_toArray, List.set_cons_zero, List.set_cons_succ])
    refine wpAnyH_one (by kernel_rfl) (fun _ _ _ _ _ h => h) (by assumption) 37 17 (some 59) ?_ _ (by rfl) (by rfl) (by kernel_rfl) (by rfl) ?_ ?_
    rotate_left 1
    · intro W hSw
      (try dsimp only at hSw)
      go_simp
      (try with_reducible rfl)
    (try simp only [Act.put, List.setIfInBounds_toArray, List.set_cons_zero, List.set_cons_succ])
    refine wpAnyH_one (by kernel_rfl) (fun _ _ _ _ _ h => h) (by assumption) 38 16 (some 60) ?_ _ (by rfl) (by rfl) (by kernel_rfl) (by rfl) ?_ ?_
    rotate_left 1
    · intro W hSw
      (try dsimp only at hSw)
      go_simp
      (try with_reducible rfl)
    (try simp only [Act.put, List.setIfInBounds_toArray, List.set_cons_zero, List.set_cons_succ])
    refine wpAnyH_one (by kernel_rfl) (fun _ _ _ _ _ h => h) (by assumption) 39 15 (some 61) ?_ _ (by rfl) (by rfl) (by kernel_rfl) (by rfl) ?_ ?_
    rotate_left 1
    · intro W hSw
      (try dsimp only at hSw)
      go_simp
      (try with_reducible rfl)
    (try simp only [Act.put, List.setIfInBounds_toArray, List.set_cons_zero, List.set_cons_succ])
    refine wpAnyH_one (by kernel_rfl) (fun _ _ _ _ _ h => h) (by assumption) 40 14 (some 62) ?_ _ (by rfl) (by rfl) (by kernel_rfl) (by rfl) ?_ ?_
    rotate_left 1
    · intro W hSw
      (try dsimp only at hSw)
      go_simp
      (try with_reducible rfl)
    (try simp only [Act.put, List.setIfInBounds_toArray, List.set_cons_zero, List.set_cons_succ])
    refine wpAnyH_one (by kernel_rfl) (fun _ _ _ _ _ h => h) (by assumption) 41 13 (some 63) ?_ _ (by rfl) (by rfl) (by kernel_rfl) (by rfl) ?_ ?_
    rotate_left 1
    · intro W hSw
      (try dsimp only at hSw)
      go_simp
      (try with_reducible rfl)
    (try simp only [Act.put, List.setIfInBounds_toArray, List.set_cons_zero, List.set_cons_succ])
    refine wpAnyH_one (by kernel_rfl) (fun _ _ _ _ _ h => h) (by assumption) 42 12 (some 64) ?_ _ (by rfl) (by rfl) (by kernel_rfl) (by rfl) ?_ ?_
    rotate_left 1
    · intro W hSw
      (try dsimp only at hSw)
      go_simp
      (try with_reducible rfl)
    (try simp only [Act.put, List.setIfInBounds_toArray, List.set_cons_zero, List.set_cons_succ])
    refine wpAnyH_one (by kernel_rfl) (fun _ _ _ _ _ h => h) (by assumption) 43 11 (some 65) ?_ _ (by rfl) (by rfl) (by kernel_rfl) (by rfl) ?_ ?_
    rotate_left 1
    · intro W hSw
      (try dsimp only at hSw)
      go_simp
      (try with_reducible rfl)
    (try simp only [Act.put, List.setIfInBounds_toArray, List.set_cons_zero, List.set_cons_succ])
    refine wpAnyH_one (by kernel_rfl) (fun _ _ _ _ _ h => h) (by assumption) 44 10 (some 66) ?_ _ (by rfl) (by rfl) (by kernel_rfl) (by rfl) ?_ ?_
    rotate_left 1
    · intro W hSw
      (try dsimp only at hSw)
      go_simp
      (try with_reducible rfl)
    (try simp only [Act.put, List.setIfInBounds_toArray, List.set_cons_zero, List.set_cons_succ])
    refine wpAnyH_one (by kernel_rfl) (fun _ _ _ _ _ h => h) (by assumption) 45 9 (some 67) ?_ _ (by rfl) (by rfl) (by kernel_rfl) (by rfl) ?_ ?_
    rotate_left 1
    · intro W hSw
      (try dsimp only at hSw)
      go_simp
      (try with_reducible rfl)
    (try simp only [Act.put, List.setIfInBounds_toArray, List.set_cons_zero, List.set_cons_succ])
    refine wpAnyH_one (by kernel_rfl) (fun _ _ _ _ _ h => h) (by assumption) 46 8 (some 68) ?_ _ (by rfl) (by rfl) (by kernel_rfl) (by rfl) ?_ ?_
    rotate_left 1
    · intro W hSw
      (try dsimp only at hSw)
      go_simp
      (try with_reducible rfl)
    (try simp only [Act.put, List.setIfInBounds_toArray, List.set_cons_zero, List.set_cons_succ])
    refine wpAnyH_one (by kernel_rfl) (fun _ _ _ _ _ h => h) (by assumption) 47 7 (some 69) ?_ _ (by rfl) (by rfl) (by kernel_rfl) (by rfl) ?_ ?_
    rotate_left 1
    · intro W hSw
      (try dsimp only at hSw)
      go_simp
      (try with_reducible rfl)
    (try simp only [Act.put, List.setIfInBounds_toArray, List.set_cons_zero, List.set_cons_succ])
    refine wpAnyH_one (by kernel_rfl) (fun _ _ _ _ _ h => h) (by assumption) 48 6 (some 70) ?_ _ (by rfl) (by rfl) (by kernel_rfl) (by rfl) ?_ ?_
    rotate_left 1
    · intro W hSw
      (try dsimp only at hSw)
      go_simp
      (try with_reducible rfl)
    (try simp only [Act.put, List.setIfInBounds_toArray, List.set_cons_zero, List.set_cons_succ])
    refine wpAnyH_one (by kernel_rfl) (fun _ _ _ _ _ h => h) (by assumption) 49 5 (some 71) ?_ _ (by rfl) (by rfl) (by kernel_rfl) (by rfl) ?_ ?_
    rotate_left 1
    · intro W hSw
      (try dsimp only at hSw)
      go_simp
      (try with_reducible rfl)
    (try simp only [Act.put, List.setIfInBounds_toArray, List.set_cons_zero, List.set_cons_succ])
    refine wpAnyH_one (by kernel_rfl) (fun _ _ _ _ _ h => h) (by assumption) 50 4 (some 72) ?_ _ (by rfl) (by rfl) (by kernel_rfl) (by rfl) ?_ ?_
    rotate_left 1
    · intro W hSw
      (try dsimp only at hSw)
      go_simp
      (try with_reducible rfl)
    (try simp only [Act.put, List.setIfInBounds_toArray, List.set_cons_zero, List.set_cons_succ])
    refine wpAnyH_one (by kernel_rfl) (fun _ _ _ _ _ h => h) (by assumption) 51 3 (some 73) ?_ _ (by rfl) (by rfl) (by kernel_rfl) (by rfl) ?_ ?_
    rotate_left 1
    · intro W hSw
      (try dsimp only at hSw)
      go_simp
      (try with_reducible rfl)
    (try simp only [Act.put, List.setIfInBounds_toArray, List.set_cons_zero, List.set_cons_succ])
    refine wpAnyH_one (by kernel_rfl) (fun _ _ _ _ _ h => h) (by assumption) 52 2 (some 74) ?_ _ (by rfl) (by rfl) (by kernel_rfl) (by rfl) ?_ ?_
    rotate_left 1
    · intro W hSw
      (try dsimp only at hSw)
      go_simp
      (try with_reducible rfl)
    (try simp only [Act.put, List.setIfInBounds_toArray, List.set_cons_zero, List.set_cons_succ])
    refine wpAnyH_one (by kernel_rfl) (fun _ _ _ _ _ h => h) (by assumption) 53 1 (some 75) ?_ _ (by rfl) (by rfl) (by kernel_rfl) (by rfl) ?_ ?_
    rotate_left 1
    · intro W hSw
      (try dsimp only at hSw)
      go_simp
      (try with_reducible rfl)
    (try simp only [Act.put, List.setIfInBounds_toArray, List.set_cons_zero, List.set_cons_succ])
    refine wpAnyH_one (by kernel_rfl) (fun _ _ _ _ _ h => h) (by assumption) 54 0 (some 6) ?_ _ (by rfl) (by rfl) (by kernel_rfl) (by rfl) ?_ ?_
    rotate_left 1
    · intro W hSw
      (try dsimp only at hSw)
      go_simp
      (try with_reducible rfl)
    (try simp only [Act.put, List.setIfInBounds_toArray, List.set_cons_zero, List.set_cons_succ])
    refine wpAnyH_done (by kernel_rfl) ?_ _
    refine NoPanic.normal ?_
    (try simp only [Act.put, List.setIfInBounds_toArray, List.set_cons_zero, List.set_cons_succ])
    have HZ := Lib.hid (below_then HB.out hHeld.1)
    go_wp2_with fail
    go_ret
    exact ⟨rfl, HZ.out⟩

set_option maxRecDepth 100000 in
theorem contract (H : Type) (enc : TypeId × Value → H) (W : World) (base : Nat) (args : Array Value) (ds gs : List (DataW H)) (before : List MemPlace)
    (hval : ∀ (j : Nat) t v, Try.f5.params[j]? = some t → args[j]? = some v → Value.okWide Try.prog W .any base t v)
    (hW : DataW.Whole enc Try.prog Try.f5.params.toList Rows.bagAddsSpec.vars false W args.toList ds gs before) :
    Calls Try.prog 5 args W fun e W' => ∃ v, e = .returned v ∧ Rows.bagAddsSpec.post enc Try.prog Try.f5 false true false false W args v W' := by
  have hlt : ∀ x ∈ before, x.block < W.heap.size := fun x hx => by simpa using hW.lt x hx
  refine law_step 4 Try.laid_ (by kernel_rfl) rfl Try.underlying4 rfl hW (fun xs hx => ?_) ?_
  · match xs, hx with
    | [d0, d1, d2], _ => rfl
  · obtain ⟨p, q, hA0, hV, rfl, _, _⟩ := hW
    have hA : DataW.TrodAll enc Try.prog W 0 (fun _ => true) true Try.f5.params.toList args.toList ds p := hA0
    rw [Try.params5] at hA hval
    obtain ⟨v0, vs0, d0, ds0, p0, q0, e0, rfl, rfl, h0, r0⟩ := trodAll_cons hA
    obtain ⟨v1, vs1, d1, ds1, p1, q1, e1, rfl, rfl, h1, r1⟩ := trodAll_cons r0
    obtain ⟨v2, vs2, d2, ds2, p2, q2, e2, rfl, rfl, h2, r2⟩ := trodAll_cons r1
    obtain ⟨rfl, rfl, rfl⟩ := trodAll_nil r2
    subst e2
    subst e1
    obtain rfl : args = #[v0, v1, v2] := by cases args; simp_all
    clear e0 hA0
    obtain ⟨k0, u0, A0, n0, c0, l, rfl, rd0, wk0, wu0, wl0⟩ := open_cell (hval 0 26 v0 rfl rfl) h0
    obtain ⟨x1, y1, rfl, wx1, wy1⟩ := open_arr2 (hval 1 44 v1 rfl rfl) h1
    obtain ⟨x2, y2, rfl, wx2, wy2⟩ := open_dot (hval 2 28 v2 rfl rfl) h2
    exact walk k0 u0 A0 n0 c0 l x1 y1 x2 y2 W rd0

set_option maxRecDepth 100000 in
theorem lifted (os : Os) (started : os.Started) (H : Type) (enc : TypeId × Value → H) :
    ReturnsInHanded {} Try.checked os 5 .any (Rows.bagAddsSpec.pre6 enc Try.prog Try.f5 Rows.bagAddsRow.domain false) (Rows.bagAddsSpec.post enc Try.prog Try.f5 false true false false) := by
  refine returnsInHanded_of_change (C := Try.checked) Try.own_ started (by kernel_rfl) Try.func5
    (ChangeSpec.witness6 (enc := enc) (C := Try.checked) false ⟨#[], #[.agg #[.int .i64 0, .int .i64 0, .int .i64 0, .string ⟨#[]⟩, .slice none 0 0], .agg #[.int .i64 0, .int .i64 0], .agg #[.int .i64 0, .int .i64 0]], []⟩ 8 (by kernel_rfl) (by kernel_rfl) (by kernel_rfl) (by kernel_rfl)) ?_
  intro W base args ds gs before hval hW _ _
  exact contract H enc W base args ds gs before hval hW

theorem holds : Rows.BagAddsSaid :=
  OpenClaim.holds_of_wide 5 Try.f5 rfl rfl rfl rfl rfl rfl rfl ⟨rfl, rfl, rfl, rfl, rfl⟩ rfl rfl rfl rfl rfl (by kernel_rfl) Try.func5 (by kernel_rfl)
    (of_decide_eq_true (by kernel_rfl)) (by unfold Func.isWrapper; first | (rw [if_pos (by decide +kernel)]; kernel_rfl) | (rw [if_neg (by decide +kernel)]; exact ⟨rfl, rfl⟩))
    (fun os started H enc _ => lifted os started H enc)
end Go.Proofs.Ytomdbjmbkfdcmaa.bagAdds

