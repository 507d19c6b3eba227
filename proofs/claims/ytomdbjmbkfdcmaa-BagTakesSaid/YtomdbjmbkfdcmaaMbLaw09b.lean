/- What is taken by one who knew of all that put it is not there any more; of whom the taker did not know keeps it there; all other numbers are as they were. Of all cells, numbers, dots, vectors. -/
import Derived.Test.YtomdbjmbkfdcmaaRows
import Derived.Test.YtomdbjmbkfdcmaaMbBase
import Derived.Test.YtomdbjmbkfdcmaaMbBagAlive
import Derived.Test.YtomdbjmbkfdcmaaMbBagF
import Derived.Test.YtomdbjmbkfdcmaaMbBagFew
import Derived.Test.YtomdbjmbkfdcmaaMbOpen
import Derived.Test.YtomdbjmbkfdcmaaMbVecOpen
namespace Go.Proofs.Ytomdbjmbkfdcmaa.bagTakes
open Go.ChangeShapes Go.WideShapes Go.ChangeAt Go.RowKit Go.ChangeMaps

set_option maxRecDepth 100000 in
set_option maxHeartbeats 12800000 in
theorem walk (k : Int) (u : V3) (A : Option Addr) (n c : Nat) (l : List P11) (z0 z1 dx dy : Int) (B : Option Addr) (m d : Nat) (kn : List Int) (w : World) (h : RdP w A n c l) (hk : Rd w B m d (vals .i64 kn)) :
    Calls Try.prog 6 #[cellV k u (.slice A n c), .agg #[.int .i64 z0, .int .i64 z1], .agg #[.int .i64 dx, .int .i64 dy], .slice B m d] w fun e w' => e = .returned (.bool true) ∧ Below w.heap.size w w' := by
  have HB := Lib.hid (Below.refl w.heap.size w)
  have HLN := Lib.hid h.len
  have hle := h.le
  have RD := Lib.hid h
  have RK := Lib.hid hk
  clear h hk
  obtain ⟨r, hr⟩ : ∃ r, Hid (rightS k u l = r) := ⟨_, rfl⟩
  have CR : Hid (∀ W : World, RdP W A n c l → Calls Try.prog 18 #[cellV k u (.slice A n c)] W fun e w' => e = .returned (.bool r) ∧ Below W.heap.size W w') := by
    intro W hW; rw [← hr.out]; exact rightS_any k u A n c l W hW
  by_cases hn : n ≤ 60
  rotate_left
  · have FW : Hid (∀ W : World, Calls Try.prog 17 #[cellV k u (.slice A n c)] W fun e w' => e = .returned (.bool false) ∧ Below W.heap.size W w') := by
      intro W
      have := few9_any k u A n c W
      rwa [decide_eq_false (by omega)] at this
    clear hn
    obtain ⟨g, hg⟩ : ∃ g, g = w.heap.size := ⟨_, rfl⟩
    obtain ⟨w0, hw0⟩ : ∃ w1, w1 = (((w.alloc (cellRow k u (.slice A n c))).alloc (.cells #[.int .i64 z0, .int .i64 z1] 44)).alloc (dotRow ⟨dx, dy⟩)) := ⟨_, rfl⟩
    have HW0 := Lib.hid hw0; have HG := Lib.hid hg
    have hat : ∀ (w : World) (o : Obj) (g : Nat), w.heap.size = g → (w.alloc o).heap[g]? = some o := fun w o g h => by subst h; exact heap_alloc_new _ _
    have bb : Below w.heap.size w w0 := by rw [hw0]; exact below_new (below_new (below_new (Below.refl _ _) _) _) _
    have RX : Hid (w0.heap[g]? = some (cellRow k u (.slice A n c))) := by
      show _ = _
      rw [hw0, hg]
      rw [Below.heap_alloc _ _ _ (by simp only [World.size_alloc]; omega), Below.heap_alloc _ _ _ (by simp only [World.size_alloc]; omega)]
      exact hat _ _ _ rfl
    have RZ : Hid (w0.heap[g + 1]? = some (.cells #[.int .i64 z0, .int .i64 z1] 44)) := by
      show _ = _
      rw [hw0, hg]
      rw [Below.heap_alloc _ _ _ (by simp only [World.size_alloc]; omega)]
      exact hat _ _ _ (by simp only [World.size_alloc])
    have RQ : Hid (w0.heap[g + 2]? = some (dotRow ⟨dx, dy⟩)) := by
      show _ = _
      rw [hw0, hg]
      skip
      exact hat _ _ _ (by simp only [World.size_alloc])
    replace RD := Lib.hid (RD.out.below bb)
    replace RK := Lib.hid (RK.out.below bb)
    replace HB := Lib.hid (below_then HB.out bb)
    clear bb hg hw0 hat
    go_enter Try.func6, Try.ntmps6
    go_upto_region 1 with fail
    rw [← HG.out]
    rw [show (((w.alloc (Obj.cells #[Value.int .i64 k, .int .i64 u.k, .int .i64 u.n, .string u.s, .slice A n c] 26)).alloc (Obj.cells #[Value.int .i64 z0, .int .i64 z1] 44)).alloc (Obj.cells #[Value.int .i64 dx, .int .i64 dy] 28)) = w0 from HW0.out.symm]
    clear HW0
    obtain ⟨RX0, RX1, RX2, RX3, RX4⟩ := cell_row5 RX.out
    go_wp2_with fail
    refine (FW.out _).mono ?_
    rintro e v1 ⟨rfl, bb⟩
    replace RX := Lib.hid (row_below RX.out bb)
    replace RZ := Lib.hid (row_below RZ.out bb)
    replace RQ := Lib.hid (row_below RQ.out bb)
    replace RD := Lib.hid (RD.out.below bb)
    replace RK := Lib.hid (RK.out.below bb)
    replace HB := Lib.hid (below_then HB.out bb)
    clear bb
    clear RX0 RX1 RX2 RX3 RX4
    go_wp2_with fail
    refine (alive9_any _).mono ?_
    rintro e v2 ⟨rfl, bb⟩
    replace RX := Lib.hid (row_below RX.out bb)
    replace RZ := Lib.hid (row_below RZ.out bb)
    replace RQ := Lib.hid (row_below RQ.out bb)
    replace RD := Lib.hid (RD.out.below bb)
    replace RK := Lib.hid (RK.out.below bb)
    replace HB := Lib.hid (below_then HB.out bb)
    clear bb
    go_wp2_with fail
    go_ret
    exact ⟨rfl, HB.out⟩
  by_cases hm : m ≤ 100
  rotate_left
  · have FW : Hid (∀ W : World, Calls Try.prog 17 #[cellV k u (.slice A n c)] W fun e w' => e = .returned (.bool true) ∧ Below W.heap.size W w') := by
      intro W
      have := few9_any k u A n c W
      rwa [decide_eq_true (by omega)] at this
    have hm1 : (100 : Int) < (m : Int) := by omega
    clear hn hm
    obtain ⟨g, hg⟩ : ∃ g, g = w.heap.size := ⟨_, rfl⟩
    obtain ⟨w0, hw0⟩ : ∃ w1, w1 = (((w.alloc (cellRow k u (.slice A n c))).alloc (.cells #[.int .i64 z0, .int .i64 z1] 44)).alloc (dotRow ⟨dx, dy⟩)) := ⟨_, rfl⟩
    have HW0 := Lib.hid hw0; have HG := Lib.hid hg
    have hat : ∀ (w : World) (o : Obj) (g : Nat), w.heap.size = g → (w.alloc o).heap[g]? = some o := fun w o g h => by subst h; exact heap_alloc_new _ _
    have bb : Below w.heap.size w w0 := by rw [hw0]; exact below_new (below_new (below_new (Below.refl _ _) _) _) _
    have RX : Hid (w0.heap[g]? = some (cellRow k u (.slice A n c))) := by
      show _ = _
      rw [hw0, hg]
      rw [Below.heap_alloc _ _ _ (by simp only [World.size_alloc]; omega), Below.heap_alloc _ _ _ (by simp only [World.size_alloc]; omega)]
      exact hat _ _ _ rfl
    have RZ : Hid (w0.heap[g + 1]? = some (.cells #[.int .i64 z0, .int .i64 z1] 44)) := by
      show _ = _
      rw [hw0, hg]
      rw [Below.heap_alloc _ _ _ (by simp only [World.size_alloc]; omega)]
      exact hat _ _ _ (by simp only [World.size_alloc])
    have RQ : Hid (w0.heap[g + 2]? = some (dotRow ⟨dx, dy⟩)) := by
      show _ = _
      rw [hw0, hg]
      skip
      exact hat _ _ _ (by simp only [World.size_alloc])
    replace RD := Lib.hid (RD.out.below bb)
    replace RK := Lib.hid (RK.out.below bb)
    replace HB := Lib.hid (below_then HB.out bb)
    clear bb hg hw0 hat
    go_enter Try.func6, Try.ntmps6
    go_upto_region 1 with fail
    rw [← HG.out]
    rw [show (((w.alloc (Obj.cells #[Value.int .i64 k, .int .i64 u.k, .int .i64 u.n, .string u.s, .slice A n c] 26)).alloc (Obj.cells #[Value.int .i64 z0, .int .i64 z1] 44)).alloc (Obj.cells #[Value.int .i64 dx, .int .i64 dy] 28)) = w0 from HW0.out.symm]
    clear HW0
    obtain ⟨RX0, RX1, RX2, RX3, RX4⟩ := cell_row5 RX.out
    go_wp2_with fail
    refine (FW.out _).mono ?_
    rintro e v1 ⟨rfl, bb⟩
    replace RX := Lib.hid (row_below RX.out bb)
    replace RZ := Lib.hid (row_below RZ.out bb)
    replace RQ := Lib.hid (row_below RQ.out bb)
    replace RD := Lib.hid (RD.out.below bb)
    replace RK := Lib.hid (RK.out.below bb)
    replace HB := Lib.hid (below_then HB.out bb)
    clear bb
    clear RX0 RX1 RX2 RX3 RX4
    go_wp2_with fail
    refine (alive9_any _).mono ?_
    rintro e v2 ⟨rfl, bb⟩
    replace RX := Lib.hid (row_below RX.out bb)
    replace RZ := Lib.hid (row_below RZ.out bb)
    replace RQ := Lib.hid (row_below RQ.out bb)
    replace RD := Lib.hid (RD.out.below bb)
    replace RK := Lib.hid (RK.out.below bb)
    replace HB := Lib.hid (below_then HB.out bb)
    clear bb
    go_wp2_with fail
    go_ret
    exact ⟨rfl, HB.out⟩
  cases r with
  | false =>
    have FW : Hid (∀ W : World, Calls Try.prog 17 #[cellV k u (.slice A n c)] W fun e w' => e = .returned (.bool true) ∧ Below W.heap.size W w') := by
      intro W
      have := few9_any k u A n c W
      rwa [decide_eq_true (by omega)] at this
    have hm1 : ¬ (100 : Int) < (m : Int) := by omega
    clear hn hm
    obtain ⟨g, hg⟩ : ∃ g, g = w.heap.size := ⟨_, rfl⟩
    obtain ⟨w0, hw0⟩ : ∃ w1, w1 = (((w.alloc (cellRow k u (.slice A n c))).alloc (.cells #[.int .i64 z0, .int .i64 z1] 44)).alloc (dotRow ⟨dx, dy⟩)) := ⟨_, rfl⟩
    have HW0 := Lib.hid hw0; have HG := Lib.hid hg
    have hat : ∀ (w : World) (o : Obj) (g : Nat), w.heap.size = g → (w.alloc o).heap[g]? = some o := fun w o g h => by subst h; exact heap_alloc_new _ _
    have bb : Below w.heap.size w w0 := by rw [hw0]; exact below_new (below_new (below_new (Below.refl _ _) _) _) _
    have RX : Hid (w0.heap[g]? = some (cellRow k u (.slice A n c))) := by
      show _ = _
      rw [hw0, hg]
      rw [Below.heap_alloc _ _ _ (by simp only [World.size_alloc]; omega), Below.heap_alloc _ _ _ (by simp only [World.size_alloc]; omega)]
      exact hat _ _ _ rfl
    have RZ : Hid (w0.heap[g + 1]? = some (.cells #[.int .i64 z0, .int .i64 z1] 44)) := by
      show _ = _
      rw [hw0, hg]
      rw [Below.heap_alloc _ _ _ (by simp only [World.size_alloc]; omega)]
      exact hat _ _ _ (by simp only [World.size_alloc])
    have RQ : Hid (w0.heap[g + 2]? = some (dotRow ⟨dx, dy⟩)) := by
      show _ = _
      rw [hw0, hg]
      skip
      exact hat _ _ _ (by simp only [World.size_alloc])
    replace RD := Lib.hid (RD.out.below bb)
    replace RK := Lib.hid (RK.out.below bb)
    replace HB := Lib.hid (below_then HB.out bb)
    clear bb hg hw0 hat
    go_enter Try.func6, Try.ntmps6
    go_upto_region 1 with fail
    rw [← HG.out]
    rw [show (((w.alloc (Obj.cells #[Value.int .i64 k, .int .i64 u.k, .int .i64 u.n, .string u.s, .slice A n c] 26)).alloc (Obj.cells #[Value.int .i64 z0, .int .i64 z1] 44)).alloc (Obj.cells #[Value.int .i64 dx, .int .i64 dy] 28)) = w0 from HW0.out.symm]
    clear HW0
    obtain ⟨RX0, RX1, RX2, RX3, RX4⟩ := cell_row5 RX.out
    go_wp2_with fail
    refine (FW.out _).mono ?_
    rintro e v1 ⟨rfl, bb⟩
    replace RX := Lib.hid (row_below RX.out bb)
    replace RZ := Lib.hid (row_below RZ.out bb)
    replace RQ := Lib.hid (row_below RQ.out bb)
    replace RD := Lib.hid (RD.out.below bb)
    replace RK := Lib.hid (RK.out.below bb)
    replace HB := Lib.hid (below_then HB.out bb)
    clear bb
    clear RX0 RX1 RX2 RX3 RX4
    obtain ⟨RX0, RX1, RX2, RX3, RX4⟩ := cell_row5 RX.out
    go_wp2_with fail
    refine (CR.out _ RD.out).mono ?_
    rintro e v2 ⟨rfl, bb⟩
    replace RX := Lib.hid (row_below RX.out bb)
    replace RZ := Lib.hid (row_below RZ.out bb)
    replace RQ := Lib.hid (row_below RQ.out bb)
    replace RD := Lib.hid (RD.out.below bb)
    replace RK := Lib.hid (RK.out.below bb)
    replace HB := Lib.hid (below_then HB.out bb)
    clear bb
    clear RX0 RX1 RX2 RX3 RX4
    go_wp2_with fail
    refine (alive9_any _).mono ?_
    rintro e v3 ⟨rfl, bb⟩
    replace RX := Lib.hid (row_below RX.out bb)
    replace RZ := Lib.hid (row_below RZ.out bb)
    replace RQ := Lib.hid (row_below RQ.out bb)
    replace RD := Lib.hid (RD.out.below bb)
    replace RK := Lib.hid (RK.out.below bb)
    replace HB := Lib.hid (below_then HB.out bb)
    clear bb
    go_wp2_with fail
    go_ret
    exact ⟨rfl, HB.out⟩
  | true =>
  by_cases hz : z0 = z1
  rotate_left
  · have FW : Hid (∀ W : World, Calls Try.prog 17 #[cellV k u (.slice A n c)] W fun e w' => e = .returned (.bool true) ∧ Below W.heap.size W w') := by
      intro W
      have := few9_any k u A n c W
      rwa [decide_eq_true (by omega)] at this
    have hm1 : ¬ (100 : Int) < (m : Int) := by omega
    have hn6 : n ≤ 4294967000 := by omega
    obtain ⟨L, hL⟩ : ∃ L, Hid (takeB l z0 ⟨dx, dy⟩ kn = L) := ⟨_, rfl⟩
    obtain ⟨N, hNN⟩ : ∃ N, Hid (L.length = N) := ⟨_, rfl⟩
    have hRL : Hid (rightS k u L = true) := by show _ = _; rw [← hL.out]; exact rightS_filter hr.out _
    obtain ⟨S, hS⟩ : ∃ S, Hid (staysB l z0 ⟨dx, dy⟩ kn = S) := ⟨_, rfl⟩
    have CR2 : Hid (∀ (A1 : Option Addr) (d1 : Nat) (W : World), RdP W A1 N d1 L → Calls Try.prog 18 #[cellV k u (.slice A1 N d1)] W fun e w' => e = .returned (.bool true) ∧ Below W.heap.size W w') := by
      intro A1 d1 W hW; rw [← hRL.out]; exact rightS_any k u A1 N d1 L W hW
    have H1 : Hid (∀ (A1 : Option Addr) (d1 : Nat) (W : World), RdP W A1 N d1 L → Calls Try.prog 23 #[cellV k u (.slice A1 N d1), .int .i64 z0] W fun e w' => e = .returned (.bool S) ∧ Below W.heap.size W w') := by
      intro A1 d1 W hW
      have := hasB_any k u A1 N d1 L z0 W hW
      rw [show hasB L z0 = S by rw [← hL.out, hasB_take_self, hS.out]] at this
      exact this
    obtain ⟨b, hb⟩ : ∃ b, Hid (hasB l z1 = b) := ⟨_, rfl⟩
    have H2 : Hid (∀ (A1 : Option Addr) (d1 : Nat) (W : World), RdP W A1 N d1 L → Calls Try.prog 23 #[cellV k u (.slice A1 N d1), .int .i64 z1] W fun e w' => e = .returned (.bool b) ∧ Below W.heap.size W w') := by
      intro A1 d1 W hW
      have := hasB_any k u A1 N d1 L z1 W hW
      rw [show hasB L z1 = b by rw [← hL.out, hasB_take_other _ _ _ hz, hb.out]] at this
      exact this
    have H3 : Hid (∀ W : World, RdP W A n c l → Calls Try.prog 23 #[cellV k u (.slice A n c), .int .i64 z1] W fun e w' => e = .returned (.bool b) ∧ Below W.heap.size W w') := by
      intro W hW
      have := hasB_any k u A n c l z1 W hW
      rw [hb.out] at this
      exact this
    have hz1 : (z0 == z1) = false := by simp [hz]
    have hz2 : decide (z0 = z1) = false := decide_eq_false hz
    have HZZ := Lib.hid (And.intro hz (And.intro hz1 hz2))
    clear hz hz1 hz2
    have T1 : Hid (∀ W : World, RdP W A n c l → Rd W B m d (vals .i64 kn) → Calls Try.prog 24 #[cellV k u (.slice A n c), .int .i64 z0, .agg #[.int .i64 dx, .int .i64 dy], .slice B m d] W fun e w' => ∃ A' c', e = .returned (cellV k u (.slice A' N c')) ∧ RdP w' A' N c' L ∧ Below W.heap.size W w') := by
      intro W hW hK
      have := takeB_any k u A n c l z0 ⟨dx, dy⟩ B m d kn W hW (by omega) hK
      rw [hL.out, hNN.out] at this
      exact this
    clear hn6 hm hL hNN hr hRL
    obtain ⟨g, hg⟩ : ∃ g, g = w.heap.size := ⟨_, rfl⟩
    obtain ⟨w0, hw0⟩ : ∃ w1, w1 = (((w.alloc (cellRow k u (.slice A n c))).alloc (.cells #[.int .i64 z0, .int .i64 z1] 44)).alloc (dotRow ⟨dx, dy⟩)) := ⟨_, rfl⟩
    have HW0 := Lib.hid hw0; have HG := Lib.hid hg
    have hat : ∀ (w : World) (o : Obj) (g : Nat), w.heap.size = g → (w.alloc o).heap[g]? = some o := fun w o g h => by subst h; exact heap_alloc_new _ _
    have bb : Below w.heap.size w w0 := by rw [hw0]; exact below_new (below_new (below_new (Below.refl _ _) _) _) _
    have RX : Hid (w0.heap[g]? = some (cellRow k u (.slice A n c))) := by
      show _ = _
      rw [hw0, hg]
      rw [Below.heap_alloc _ _ _ (by simp only [World.size_alloc]; omega), Below.heap_alloc _ _ _ (by simp only [World.size_alloc]; omega)]
      exact hat _ _ _ rfl
    have RZ : Hid (w0.heap[g + 1]? = some (.cells #[.int .i64 z0, .int .i64 z1] 44)) := by
      show _ = _
      rw [hw0, hg]
      rw [Below.heap_alloc _ _ _ (by simp only [World.size_alloc]; omega)]
      exact hat _ _ _ (by simp only [World.size_alloc])
    have RQ : Hid (w0.heap[g + 2]? = some (dotRow ⟨dx, dy⟩)) := by
      show _ = _
      rw [hw0, hg]
      skip
      exact hat _ _ _ (by simp only [World.size_alloc])
    replace RD := Lib.hid (RD.out.below bb)
    replace RK := Lib.hid (RK.out.below bb)
    replace HB := Lib.hid (below_then HB.out bb)
    clear bb hg hw0 hat
    go_enter Try.func6, Try.ntmps6
    go_upto_region 1 with fail
    rw [← HG.out]
    rw [show (((w.alloc (Obj.cells #[Value.int .i64 k, .int .i64 u.k, .int .i64 u.n, .string u.s, .slice A n c] 26)).alloc (Obj.cells #[Value.int .i64 z0, .int .i64 z1] 44)).alloc (Obj.cells #[Value.int .i64 dx, .int .i64 dy] 28)) = w0 from HW0.out.symm]
    clear HW0
    obtain ⟨RX0, RX1, RX2, RX3, RX4⟩ := cell_row5 RX.out
    go_wp2_with fail
    refine (FW.out _).mono ?_
    rintro e v1 ⟨rfl, bb⟩
    replace RX := Lib.hid (row_below RX.out bb)
    replace RZ := Lib.hid (row_below RZ.out bb)
    replace RQ := Lib.hid (row_below RQ.out bb)
    replace RD := Lib.hid (RD.out.below bb)
    replace RK := Lib.hid (RK.out.below bb)
    replace HB := Lib.hid (below_then HB.out bb)
    clear bb
    clear RX0 RX1 RX2 RX3 RX4
    obtain ⟨RX0, RX1, RX2, RX3, RX4⟩ := cell_row5 RX.out
    go_wp2_with fail
    refine (CR.out _ RD.out).mono ?_
    rintro e v2 ⟨rfl, bb⟩
    replace RX := Lib.hid (row_below RX.out bb)
    replace RZ := Lib.hid (row_below RZ.out bb)
    replace RQ := Lib.hid (row_below RQ.out bb)
    replace RD := Lib.hid (RD.out.below bb)
    replace RK := Lib.hid (RK.out.below bb)
    replace HB := Lib.hid (below_then HB.out bb)
    clear bb
    clear RX0 RX1 RX2 RX3 RX4
    obtain ⟨RX0, RX1, RX2, RX3, RX4⟩ := cell_row5 RX.out
    have RZ0 := cell_row RZ.out 0
    have RZ1 := cell_row RZ.out 1
    simp only [List.getElem?_toArray, List.getElem?_cons_zero, List.getElem?_cons_succ] at RZ0 RZ1
    obtain ⟨RQ0, RQ1⟩ := dot_row RQ.out
    try dsimp only at RQ0 RQ1
    go_wp2_with fail
    refine (T1.out _ RD.out RK.out).mono ?_
    rintro e v3 ⟨A1, d1, rfl, hrl, bb⟩
    replace RX := Lib.hid (row_below RX.out bb)
    replace RZ := Lib.hid (row_below RZ.out bb)
    replace RQ := Lib.hid (row_below RQ.out bb)
    replace RD := Lib.hid (RD.out.below bb)
    replace RK := Lib.hid (RK.out.below bb)
    replace HB := Lib.hid (below_then HB.out bb)
    clear bb
    have RL := Lib.hid hrl
    clear hrl
    clear RX0 RX1 RX2 RX3 RX4 RZ0 RZ1 RQ0 RQ1
    obtain ⟨v4, hw⟩ : ∃ w', w' = v3.alloc (cellRow k u (.slice A1 N d1)) := ⟨_, rfl⟩
    have RW : Hid (v4.heap[v3.heap.size]? = some (cellRow k u (.slice A1 N d1))) := by rw [hw]; exact heap_alloc_new _ _
    have bb : Below v3.heap.size v3 v4 := by rw [hw]; exact below_new (Below.refl _ _) _
    replace hw := Lib.hid hw
    replace RX := Lib.hid (row_below RX.out bb)
    replace RZ := Lib.hid (row_below RZ.out bb)
    replace RQ := Lib.hid (row_below RQ.out bb)
    replace RD := Lib.hid (RD.out.below bb)
    replace RK := Lib.hid (RK.out.below bb)
    replace RL := Lib.hid (RL.out.below bb)
    replace HB := Lib.hid (below_then HB.out bb)
    clear bb
    go_upto_region 4 with fail
    rw [show v3.alloc (Obj.cells #[Value.int .i64 k, .int .i64 u.k, .int .i64 u.n, .string u.s, .slice A1 N d1] 26) = v4 from hw.out.symm]
    clear hw
    generalize v3.heap.size = gRW at RW ⊢
    obtain ⟨RX0, RX1, RX2, RX3, RX4⟩ := cell_row5 RX.out
    clear T1 CR FW
    go_wp2_with fail
    go_loopw [10, 36] (fun s i wr => ∃ (j : Nat) (st : Bool), j ≤ n ∧ i = .int .i64 j ∧ s = .bool st ∧ Hid (st = staysB (l.take j) z0 ⟨dx, dy⟩ kn) ∧ Hid (Below v4.heap.size v4 wr)) (fun _ i _ => n - (intOf i).toNat)
    case atStart => exact ⟨0, false, Nat.zero_le _, rfl, rfl, by show _ = _; simp [staysB], Below.refl _ _⟩
    case round =>
      clear RX0 RX1 RX2 RX3 RX4
      obtain ⟨j, st, hj, rfl, rfl, hst, hbel⟩ := hrel
      replace RX := Lib.hid (row_below RX.out hbel.out); replace RZ := Lib.hid (row_below RZ.out hbel.out); replace RQ := Lib.hid (row_below RQ.out hbel.out); replace RW := Lib.hid (row_below RW.out hbel.out)
      replace RK := Lib.hid (RK.out.below hbel.out); replace RL := Lib.hid (RL.out.below hbel.out)
      replace HB := Lib.hid (below_then HB.out hbel.out)
      by_cases hlt : j < n
      · obtain ⟨b', o, x, rfl, hb', hx, hld⟩ := RD.out.part hlt
        obtain ⟨e0, e1, e2, e3, e4, e5, e6, e7, e8, e9, e10⟩ := hld wr hbel.out
        have HX := Lib.hid hx
        have HBV := Lib.hid hbel.out
        have hstep := Lib.hid (stays_step hx z0 ⟨dx, dy⟩ kn)
        clear hx hld hbel
        obtain ⟨v41, hw⟩ : ∃ w', w' = wr.alloc (partCells x) := ⟨_, rfl⟩
        have RP : Hid (v41.heap[wr.heap.size]? = some (partCells x)) := by rw [hw]; exact heap_alloc_new _ _
        have bb : Below wr.heap.size wr v41 := by rw [hw]; exact below_new (Below.refl _ _) _
        replace hw := Lib.hid hw
        replace RX := Lib.hid (row_below RX.out bb)
        replace RZ := Lib.hid (row_below RZ.out bb)
        replace RQ := Lib.hid (row_below RQ.out bb)
        replace RW := Lib.hid (row_below RW.out bb)
        replace RK := Lib.hid (RK.out.below bb)
        replace RL := Lib.hid (RL.out.below bb)
        replace HB := Lib.hid (below_then HB.out bb)
        replace HBV := Lib.hid (below_then HBV.out bb)
        clear bb
        go_upto_region 8 with fail
        rw [show wr.alloc (Obj.cells #[Value.int .i64 x.v.k, .int .i64 x.v.n, .string x.v.s, .int .i64 x.d.d, .int .i64 x.d.s, .int .i64 x.i, .int .i64 x.t, .int .i64 x.a.d, .int .i64 x.a.s, .int .i64 x.j, .bool x.g] 30) = v41 from hw.out.symm]
        clear hw
        generalize wr.heap.size = gRP at RP ⊢
        clear e0 e1 e2 e3 e4 e5 e6 e7 e8 e9 e10
        obtain ⟨r, hr⟩ : ∃ r, Hid (hasV kn x.d.d x.d.s = r) := ⟨_, rfl⟩
        have CH : Hid (∀ W : World, Rd W B m d (vals .i64 kn) → Calls Try.prog 15 #[.slice B m d, .agg #[.int .i64 x.d.d, .int .i64 x.d.s]] W fun e w' => e = .returned (.bool r) ∧ Below W.heap.size W w') := by
          intro W hW; rw [← hr.out]; exact refHas_any B m d kn x.d.d x.d.s W hW
        obtain ⟨q, hq⟩ : ∃ q, Hid (decide (x.d = ⟨dx, dy⟩) = q) := ⟨_, rfl⟩
        have EQ := fun W2 => run_equalIn_dot x.d.d x.d.s dx dy W2
        rw [show decide ((⟨x.d.d, x.d.s⟩ : D2) = ⟨dx, dy⟩) = q from hq.out] at EQ
        obtain ⟨RP0, RP1, RP2, RP3, RP4, RP5, RP6, RP7, RP8, RP9, RP10⟩ := part_row RP.out
        have RZ0 := cell_row RZ.out 0
        have RZ1 := cell_row RZ.out 1
        simp only [List.getElem?_toArray, List.getElem?_cons_zero, List.getElem?_cons_succ] at RZ0 RZ1
        obtain ⟨RQ0, RQ1⟩ := dot_row RQ.out
        try dsimp only at RQ0 RQ1
        cases st with
        | true =>
          have hs2 : Hid (true = staysB (l.take (j + 1)) z0 ⟨dx, dy⟩ kn) := by show _ = _; rw [hstep.out, ← hst.out]; simp
          go_wp2_with fail
          exact ⟨⟨j + 1, true, by omega, by go_num, rfl, hs2, HBV⟩, by simp [intOf]; omega⟩
        | false =>
          by_cases hv : x.v.n = z0
          rotate_left
          · have hv1 : (x.v.n == z0) = false := by simp [hv]
            have hv2 : decide (x.v.n = z0) = false := decide_eq_false hv
            have hs2 : Hid (false = staysB (l.take (j + 1)) z0 ⟨dx, dy⟩ kn) := by show _ = _; rw [hstep.out, ← hst.out, hv2]; simp
            clear hv
            go_wp2_with fail
            exact ⟨⟨j + 1, false, by omega, by go_num, rfl, hs2, HBV⟩, by simp [intOf]; omega⟩
          have hv1 : (x.v.n == z0) = true := by simp [hv]
          have hv2 : decide (x.v.n = z0) = true := decide_eq_true hv
          clear hv
          cases q with
          | true =>
            have hs2 : Hid (false = staysB (l.take (j + 1)) z0 ⟨dx, dy⟩ kn) := by show _ = _; rw [hstep.out, ← hst.out, hv2, hq.out]; simp
            go_wp2_with fail
            exact ⟨⟨j + 1, false, by omega, by go_num, rfl, hs2, HBV⟩, by simp [intOf]; omega⟩
          | false =>
            have hs2 : Hid ((!r) = staysB (l.take (j + 1)) z0 ⟨dx, dy⟩ kn) := by
              show _ = _
              rw [hstep.out, ← hst.out, hv2, hq.out, show knowsV kn x.d = r from hr.out]; simp
            go_wp2_with fail
            refine (CH.out _ RK.out).mono ?_
            rintro e v42 ⟨rfl, bb⟩
            replace RX := Lib.hid (row_below RX.out bb)
            replace RZ := Lib.hid (row_below RZ.out bb)
            replace RQ := Lib.hid (row_below RQ.out bb)
            replace RW := Lib.hid (row_below RW.out bb)
            replace RP := Lib.hid (row_below RP.out bb)
            replace RK := Lib.hid (RK.out.below bb)
            replace RL := Lib.hid (RL.out.below bb)
            replace HB := Lib.hid (below_then HB.out bb)
            replace HBV := Lib.hid (below_then HBV.out bb)
            clear bb
            go_wp2_with fail
            exact ⟨⟨j + 1, !r, by omega, by go_num, rfl, hs2, HBV⟩, by simp [intOf]; omega⟩
      · have hS2 : Hid (st = S) := by
          show _ = _
          rw [hst.out, List.take_of_length_le (by rw [HLN.out]; omega)]
          exact hS.out
        obtain rfl := hS2.out
        replace RD := Lib.hid (RD.out.below hbel.out)
        clear hbel hst hS hS2
        obtain ⟨hz, hz1, hz2⟩ := HZZ.out
        obtain ⟨RX0, RX1, RX2, RX3, RX4⟩ := cell_row5 RX.out
        have RZ0 := cell_row RZ.out 0
        have RZ1 := cell_row RZ.out 1
        simp only [List.getElem?_toArray, List.getElem?_cons_zero, List.getElem?_cons_succ] at RZ0 RZ1
        obtain ⟨RW0, RW1, RW2, RW3, RW4⟩ := cell_row5 RW.out
        have KA : Hid (∀ W, Below wr.heap.size wr W → (Below wr.heap.size wr W ∧ W.cell? ⟨g, 0, none⟩ = some (.int .i64 k) ∧ W.cell? ⟨g, 1, none⟩ = some (.int .i64 u.k) ∧ W.cell? ⟨g, 2, none⟩ = some (.int .i64 u.n) ∧ W.cell? ⟨g, 3, none⟩ = some (.string u.s) ∧ W.cell? ⟨g, 4, none⟩ = some (.slice A n c) ∧ W.cell? ⟨g + 1, 0, none⟩ = some (.int .i64 z0) ∧ W.cell? ⟨g + 1, 1, none⟩ = some (.int .i64 z1) ∧ W.cell? ⟨gRW, 0, none⟩ = some (.int .i64 k) ∧ W.cell? ⟨gRW, 1, none⟩ = some (.int .i64 u.k) ∧ W.cell? ⟨gRW, 2, none⟩ = some (.int .i64 u.n) ∧ W.cell? ⟨gRW, 3, none⟩ = some (.string u.s) ∧ W.cell? ⟨gRW, 4, none⟩ = some (.slice A1 N d1))) := by
          intro W hb
          have hc : ∀ (p : Addr) (y : Value), wr.cell? p = some y → W.cell? p = some y := fun p y h2 => (hb.cell (World.block_lt_of_cell? _ _ h2)).trans h2
          exact ⟨hb, hc _ _ RX0, hc _ _ RX1, hc _ _ RX2, hc _ _ RX3, hc _ _ RX4, hc _ _ RZ0, hc _ _ RZ1, hc _ _ RW0, hc _ _ RW1, hc _ _ RW2, hc _ _ RW3, hc _ _ RW4⟩
        clear RX0 RX1 RX2 RX3 RX4 RZ0 RZ1 RW0 RW1 RW2 RW3 RW4
        go_upto_region 10 with fail
        refine wp_region_noPanic ?_
        refine wp_region_held_drew (S := (fun W => Below wr.heap.size wr W ∧ W.cell? ⟨g, 0, none⟩ = some (.int .i64 k) ∧ W.cell? ⟨g, 1, none⟩ = some (.int .i64 u.k) ∧ W.cell? ⟨g, 2, none⟩ = some (.int .i64 u.n) ∧ W.cell? ⟨g, 3, none⟩ = some (.string u.s) ∧ W.cell? ⟨g, 4, none⟩ = some (.slice A n c) ∧ W.cell? ⟨g + 1, 0, none⟩ = some (.int .i64 z0) ∧ W.cell? ⟨g + 1, 1, none⟩ = some (.int .i64 z1) ∧ W.cell? ⟨gRW, 0, none⟩ = some (.int .i64 k) ∧ W.cell? ⟨gRW, 1, none⟩ = some (.int .i64 u.k) ∧ W.cell? ⟨gRW, 2, none⟩ = some (.int .i64 u.n) ∧ W.cell? ⟨gRW, 3, none⟩ = some (.string u.s) ∧ W.cell? ⟨gRW, 4, none⟩ = some (.slice A1 N d1))) (by kernel_rfl) ?_ (fun hHeld => ?_)
        · exact KA.out _ ((Below.refl _ _).drew)
        refine wpAnyH_ready (rs := [0]) (by kernel_rfl) (by simp) (AllReadyH.cons rfl (fun K hK => ?_) AllReadyH.nil)
        go_simp
        refine (alive9_any _).mono ?_
        rintro e wx ⟨rfl, bb⟩
        (try go_wp2_with fail)
        refine hK.out _ _ ?_ (fun hHeld => ?_)
        · (try dsimp only)
          exact KA.out _ (below_then hHeld.1 bb)
        clear hK K
        (try simp only [Act.put, List.setIfInBounds_toArray, List.set_cons_zero, List.set_cons_succ])
        refine wpAnyH_one (by kernel_rfl) (fun _ _ _ _ _ h => h) (by assumption) 1 30 (some 64) ?_ _ (by rfl) (by rfl) (by kernel_rfl) (by rfl) ?_ ?_
        rotate_left 1
        · intro W hSw
          (try dsimp only at hSw)
          go_simp
          (try with_reducible rfl)
        (try simp only [Act.put, List.setIfInBounds_toArray, List.set_cons_zero, List.set_cons_succ])
        refine wpAnyH_one (by kernel_rfl) (fun _ _ _ _ _ h => h) (by assumption) 2 29 (some 65) ?_ _ (by rfl) (by rfl) (by kernel_rfl) (by rfl) ?_ ?_
        rotate_left 1
        · intro W hSw
          (try dsimp only at hSw)
          go_simp
          (try with_reducible rfl)
        (try simp only [Act.put, List.setIfInBounds_toArray, List.set_cons_zero, List.set_cons_succ])
        refine wpAnyH_ready (rs := [3]) (by kernel_rfl) (by simp) (AllReadyH.cons rfl (fun K hK => ?_) AllReadyH.nil)
        go_simp
        refine (CR2.out _ _ _ (RL.out.below hHeld.1)).mono ?_
        rintro e wx ⟨rfl, bb⟩
        (try go_wp2_with fail)
        refine hK.out _ _ ?_ (fun hHeld => ?_)
        · (try dsimp only)
          exact KA.out _ (below_then hHeld.1 bb)
        clear hK K
        (try simp only [Act.put, List.setIfInBounds_toArray, List.set_cons_zero, List.set_cons_succ])
        refine wpAnyH_one (by kernel_rfl) (fun _ _ _ _ _ h => h) (by assumption) 4 27 (some 67) ?_ _ (by rfl) (by rfl) (by kernel_rfl) (by rfl) ?_ ?_
        rotate_left 1
        · intro W hSw
          (try dsimp only at hSw)
          go_simp
          (try with_reducible rfl)
        (try simp only [Act.put, List.setIfInBounds_toArray, List.set_cons_zero, List.set_cons_succ])
        refine wpAnyH_one (by kernel_rfl) (fun _ _ _ _ _ h => h) (by assumption) 5 26 (some 68) ?_ _ (by rfl) (by rfl) (by kernel_rfl) (by rfl) ?_ ?_
        rotate_left 1
        · intro W hSw
          (try dsimp only at hSw)
          go_simp
          (try with_reducible rfl)
        (try simp only [Act.put, List.setIfInBounds_toArray, List.set_cons_zero, List.set_cons_succ])
        refine wpAnyH_one (by kernel_rfl) (fun _ _ _ _ _ h => h) (by assumption) 6 25 (some 69) ?_ _ (by rfl) (by rfl) (by kernel_rfl) (by rfl) ?_ ?_
        rotate_left 1
        · intro W hSw
          (try dsimp only at hSw)
          go_simp
          (try with_reducible rfl)
        (try simp only [Act.put, List.setIfInBounds_toArray, List.set_cons_zero, List.set_cons_succ])
        refine wpAnyH_one (by kernel_rfl) (fun _ _ _ _ _ h => h) (by assumption) 7 24 (some 70) ?_ _ (by rfl) (by rfl) (by kernel_rfl) (by rfl) ?_ ?_
        rotate_left 1
        · intro W hSw
          (try dsimp only at hSw)
          go_simp
          (try with_reducible rfl)
        (try simp only [Act.put, List.setIfInBounds_toArray, List.set_cons_zero, List.set_cons_succ])
        refine wpAnyH_one (by kernel_rfl) (fun _ _ _ _ _ h => h) (by assumption) 8 23 (some 71) ?_ _ (by rfl) (by rfl) (by kernel_rfl) (by rfl) ?_ ?_
        rotate_left 1
        · intro W hSw
          (try dsimp only at hSw)
          go_simp
          (try with_reducible rfl)
        (try simp only [Act.put, List.setIfInBounds_toArray, List.set_cons_zero, List.set_cons_succ])
        refine wpAnyH_one (by kernel_rfl) (fun _ _ _ _ _ h => h) (by assumption) 10 22 (some 73) ?_ _ (by rfl) (by rfl) (by kernel_rfl) (by rfl) ?_ ?_
        rotate_left 1
        · intro W hSw
          (try dsimp only at hSw)
          go_simp
          (try with_reducible rfl)
        (try simp only [Act.put, List.setIfInBounds_toArray, List.set_cons_zero, List.set_cons_succ])
        refine wpAnyH_ready (rs := [9]) (by kernel_rfl) (by simp) (AllReadyH.cons rfl (fun K hK => ?_) AllReadyH.nil)
        go_simp
        refine (H1.out _ _ _ (RL.out.below hHeld.1)).mono ?_
        rintro e wx ⟨rfl, bb⟩
        (try go_wp2_with fail)
        refine hK.out _ _ ?_ (fun hHeld => ?_)
        · (try dsimp only)
          exact KA.out _ (below_then hHeld.1 bb)
        clear hK K
        (try simp only [Act.put, List.setIfInBounds_toArray, List.set_cons_zero, List.set_cons_succ])
        refine wpAnyH_one (by kernel_rfl) (fun _ _ _ _ _ h => h) (by assumption) 11 20 (some 74) ?_ _ (by rfl) (by rfl) (by kernel_rfl) (by rfl) ?_ ?_
        rotate_left 1
        · intro W hSw
          (try dsimp only at hSw)
          go_simp
          (try with_reducible rfl)
        (try simp only [Act.put, List.setIfInBounds_toArray, List.set_cons_zero, List.set_cons_succ])
        refine wpAnyH_one (by kernel_rfl) (fun _ _ _ _ _ h => h) (by assumption) 12 19 (some 75) ?_ _ (by rfl) (by rfl) (by kernel_rfl) (by rfl) ?_ ?_
        rotate_left 1
        · intro W hSw
          (try dsimp only at hSw)
          go_simp
          (try with_reducible rfl)
        (try simp only [Act.put, List.setIfInBounds_toArray, List.set_cons_zero, List.set_cons_succ])
        refine wpAnyH_one (by kernel_rfl) (fun _ _ _ _ _ h => h) (by assumption) 13 18 (some 76) ?_ _ (by rfl) (by rfl) (by kernel_rfl) (by rfl) ?_ ?_
        rotate_left 1
        · intro W hSw
          (try dsimp only at hSw)
          go_simp
          (try with_reducible rfl)
        (try simp only [Act.put, List.setIfInBounds_toArray, List.set_cons_zero, List.set_cons_succ])
        refine wpAnyH_one (by kernel_rfl) (fun _ _ _ _ _ h => h) (by assumption) 14 17 (some 77) ?_ _ (by rfl) (by rfl) (by kernel_rfl) (by rfl) ?_ ?_
        rotate_left 1
        · intro W hSw
          (try dsimp only at hSw)
          go_simp
          (try with_reducible rfl)
        (try simp only [Act.put, List.setIfInBounds_toArray, List.set_cons_zero, List.set_cons_succ])
        refine wpAnyH_one (by kernel_rfl) (fun _ _ _ _ _ h => h) (by assumption) 15 16 (some 78) ?_ _ (by rfl) (by rfl) (by kernel_rfl) (by rfl) ?_ ?_
        rotate_left 1
        · intro W hSw
          (try dsimp only at hSw)
          go_simp
          (try with_reducible rfl)
        (try simp only [Act.put, List.setIfInBounds_toArray, List.set_cons_zero, List.set_cons_succ])
        refine wpAnyH_one (by kernel_rfl) (fun _ _ _ _ _ h => h) (by assumption) 16 15 (some 79) ?_ _ (by rfl) (by rfl) (by kernel_rfl) (by rfl) ?_ ?_
        rotate_left 1
        · intro W hSw
          (try dsimp only at hSw)
          go_simp
          (try with_reducible rfl)
        (try simp only [Act.put, List.setIfInBounds_toArray, List.set_cons_zero, List.set_cons_succ])
        refine wpAnyH_one (by kernel_rfl) (fun _ _ _ _ _ h => h) (by assumption) 17 14 (some 80) ?_ _ (by rfl) (by rfl) (by kernel_rfl) (by rfl) ?_ ?_
        rotate_left 1
        · intro W hSw
          (try dsimp only at hSw)
          go_simp
          (try with_reducible rfl)
        (try simp only [Act.put, List.setIfInBounds_toArray, List.set_cons_zero, List.set_cons_succ])
        refine wpAnyH_one (by kernel_rfl) (fun _ _ _ _ _ h => h) (by assumption) 18 13 (some 81) ?_ _ (by rfl) (by rfl) (by kernel_rfl) (by rfl) ?_ ?_
        rotate_left 1
        · intro W hSw
          (try dsimp only at hSw)
          go_simp
          (try with_reducible rfl)
        (try simp only [Act.put, List.setIfInBounds_toArray, List.set_cons_zero, List.set_cons_succ])
        refine wpAnyH_one (by kernel_rfl) (fun _ _ _ _ _ h => h) (by assumption) 19 12 (some 82) ?_ _ (by rfl) (by rfl) (by kernel_rfl) (by rfl) ?_ ?_
        rotate_left 1
        · intro W hSw
          (try dsimp only at hSw)
          go_simp
          (try with_reducible rfl)
        (try simp only [Act.put, List.setIfInBounds_toArray, List.set_cons_zero, List.set_cons_succ])
        refine wpAnyH_one (by kernel_rfl) (fun _ _ _ _ _ h => h) (by assumption) 20 11 (some 83) ?_ _ (by rfl) (by rfl) (by kernel_rfl) (by rfl) ?_ ?_
        rotate_left 1
        · intro W hSw
          (try dsimp only at hSw)
          go_simp
          (try with_reducible rfl)
        (try simp only [Act.put, List.setIfInBounds_toArray, List.set_cons_zero, List.set_cons_succ])
        refine wpAnyH_one (by kernel_rfl) (fun _ _ _ _ _ h => h) (by assumption) 21 10 (some 84) ?_ _ (by rfl) (by rfl) (by kernel_rfl) (by rfl) ?_ ?_
        rotate_left 1
        · intro W hSw
          (try dsimp only at hSw)
          go_simp
          (try with_reducible rfl)
        (try simp only [Act.put, List.setIfInBounds_toArray, List.set_cons_zero, List.set_cons_succ])
        refine wpAnyH_one (by kernel_rfl) (fun _ _ _ _ _ h => h) (by assumption) 22 9 (some 85) ?_ _ (by rfl) (by rfl) (by kernel_rfl) (by rfl) ?_ ?_
        rotate_left 1
        · intro W hSw
          (try dsimp only at hSw)
          go_simp
          (try with_reducible rfl)
        (try simp only [Act.put, List.setIfInBounds_toArray, List.set_cons_zero, List.set_cons_succ])
        refine wpAnyH_one (by kernel_rfl) (fun _ _ _ _ _ h => h) (by assumption) 24 8 (some 87) ?_ _ (by rfl) (by rfl) (by kernel_rfl) (by rfl) ?_ ?_
        rotate_left 1
        · intro W hSw
          (try dsimp only at hSw)
          go_simp
          (try with_reducible rfl)
        (try simp only [Act.put, List.setIfInBounds_toArray, List.set_cons_zero, List.set_cons_succ])
        refine wpAnyH_one (by kernel_rfl) (fun _ _ _ _ _ h => h) (by assumption) 25 7 (some 88) ?_ _ (by rfl) (by rfl) (by kernel_rfl) (by rfl) ?_ ?_
        rotate_left 1
        · intro W hSw
          (try dsimp only at hSw)
          go_simp
          (try with_reducible rfl)
        (try simp only [Act.put, List.setIfInBounds_toArray, List.set_cons_zero, List.set_cons_succ])
        refine wpAnyH_one (by kernel_rfl) (fun _ _ _ _ _ h => h) (by assumption) 26 6 (some 89) ?_ _ (by rfl) (by rfl) (by kernel_rfl) (by rfl) ?_ ?_
        rotate_left 1
        · intro W hSw
          (try dsimp only at hSw)
          go_simp
          (try with_reducible rfl)
        (try simp only [Act.put, List.setIfInBounds_toArray, List.set_cons_zero, List.set_cons_succ])
        refine wpAnyH_ready (rs := [23]) (by kernel_rfl) (by simp) (AllReadyH.cons rfl (fun K hK => ?_) AllReadyH.nil)
        go_simp
        refine (H2.out _ _ _ (RL.out.below hHeld.1)).mono ?_
        rintro e wx ⟨rfl, bb⟩
        (try go_wp2_with fail)
        refine hK.out _ _ ?_ (fun hHeld => ?_)
        · (try dsimp only)
          exact KA.out _ (below_then hHeld.1 bb)
        clear hK K
        (try simp only [Act.put, List.setIfInBounds_toArray, List.set_cons_zero, List.set_cons_succ])
        refine wpAnyH_ready (rs := [27]) (by kernel_rfl) (by simp) (AllReadyH.cons rfl (fun K hK => ?_) AllReadyH.nil)
        go_simp
        refine (H3.out _ (RD.out.below hHeld.1)).mono ?_
        rintro e wx ⟨rfl, bb⟩
        (try go_wp2_with fail)
        refine hK.out _ _ ?_ (fun hHeld => ?_)
        · (try dsimp only)
          exact KA.out _ (below_then hHeld.1 bb)
        clear hK K
        (try simp only [Act.put, List.setIfInBounds_toArray, List.set_cons_zero, List.set_cons_succ])
        refine wpAnyH_one (by kernel_rfl) (fun _ _ _ _ _ h => h) (by assumption) 28 3 (some 91) ?_ _ (by rfl) (by rfl) (by kernel_rfl) (by rfl) ?_ ?_
        rotate_left 1
        · intro W hSw
          (try dsimp only at hSw)
          go_simp
          (try with_reducible rfl)
        (try simp only [Act.put, List.setIfInBounds_toArray, List.set_cons_zero, List.set_cons_succ])
        refine wpAnyH_one (by kernel_rfl) (fun _ _ _ _ _ h => h) (by assumption) 29 2 (some 92) ?_ _ (by rfl) (by rfl) (by kernel_rfl) (by rfl) ?_ ?_
        rotate_left 1
        · intro W hSw
          (try dsimp only at hSw)
          go_simp
          (try with_reducible rfl)
        (try simp only [Act.put, List.setIfInBounds_toArray, List.set_cons_zero, List.set_cons_succ])
        refine wpAnyH_one (by kernel_rfl) (fun _ _ _ _ _ h => h) (by assumption) 30 1 (some 93) ?_ _ (by rfl) (by rfl) (by kernel_rfl) (by rfl) ?_ ?_
        rotate_left 1
        · intro W hSw
          (try dsimp only at hSw)
          go_simp
          (try with_reducible rfl)
        (try simp only [Act.put, List.setIfInBounds_toArray, List.set_cons_zero, List.set_cons_succ])
        refine wpAnyH_one (by kernel_rfl) (fun _ _ _ _ _ h => h) (by assumption) 31 0 (some 8) ?_ _ (by rfl) (by rfl) (by kernel_rfl) (by rfl) ?_ ?_
        rotate_left 1
        · intro W hSw
          (try dsimp only at hSw)
          go_simp
          (try with_reducible rfl)
        (try simp only [Act.put, List.setIfInBounds_toArray, List.set_cons_zero, List.set_cons_succ])
        refine wpAnyH_done (by kernel_rfl) ?_ _
        refine NoPanic.normal ?_
        (try simp only [Act.put, List.setIfInBounds_toArray, List.set_cons_zero, List.set_cons_succ])
        have HZ := Lib.hid (below_then HB.out hHeld.1)
        go_wp2_with fail
        go_ret
        exact ⟨rfl, HZ.out⟩
  · subst hz
    have FW : Hid (∀ W : World, Calls Try.prog 17 #[cellV k u (.slice A n c)] W fun e w' => e = .returned (.bool true) ∧ Below W.heap.size W w') := by
      intro W
      have := few9_any k u A n c W
      rwa [decide_eq_true (by omega)] at this
    have hm1 : ¬ (100 : Int) < (m : Int) := by omega
    have hn6 : n ≤ 4294967000 := by omega
    obtain ⟨L, hL⟩ : ∃ L, Hid (takeB l z0 ⟨dx, dy⟩ kn = L) := ⟨_, rfl⟩
    obtain ⟨N, hNN⟩ : ∃ N, Hid (L.length = N) := ⟨_, rfl⟩
    have hRL : Hid (rightS k u L = true) := by show _ = _; rw [← hL.out]; exact rightS_filter hr.out _
    obtain ⟨S, hS⟩ : ∃ S, Hid (staysB l z0 ⟨dx, dy⟩ kn = S) := ⟨_, rfl⟩
    have CR2 : Hid (∀ (A1 : Option Addr) (d1 : Nat) (W : World), RdP W A1 N d1 L → Calls Try.prog 18 #[cellV k u (.slice A1 N d1)] W fun e w' => e = .returned (.bool true) ∧ Below W.heap.size W w') := by
      intro A1 d1 W hW; rw [← hRL.out]; exact rightS_any k u A1 N d1 L W hW
    have H1 : Hid (∀ (A1 : Option Addr) (d1 : Nat) (W : World), RdP W A1 N d1 L → Calls Try.prog 23 #[cellV k u (.slice A1 N d1), .int .i64 z0] W fun e w' => e = .returned (.bool S) ∧ Below W.heap.size W w') := by
      intro A1 d1 W hW
      have := hasB_any k u A1 N d1 L z0 W hW
      rw [show hasB L z0 = S by rw [← hL.out, hasB_take_self, hS.out]] at this
      exact this
    have T1 : Hid (∀ W : World, RdP W A n c l → Rd W B m d (vals .i64 kn) → Calls Try.prog 24 #[cellV k u (.slice A n c), .int .i64 z0, .agg #[.int .i64 dx, .int .i64 dy], .slice B m d] W fun e w' => ∃ A' c', e = .returned (cellV k u (.slice A' N c')) ∧ RdP w' A' N c' L ∧ Below W.heap.size W w') := by
      intro W hW hK
      have := takeB_any k u A n c l z0 ⟨dx, dy⟩ B m d kn W hW (by omega) hK
      rw [hL.out, hNN.out] at this
      exact this
    clear hn6 hm hL hNN hr hRL
    obtain ⟨g, hg⟩ : ∃ g, g = w.heap.size := ⟨_, rfl⟩
    obtain ⟨w0, hw0⟩ : ∃ w1, w1 = (((w.alloc (cellRow k u (.slice A n c))).alloc (.cells #[.int .i64 z0, .int .i64 z0] 44)).alloc (dotRow ⟨dx, dy⟩)) := ⟨_, rfl⟩
    have HW0 := Lib.hid hw0; have HG := Lib.hid hg
    have hat : ∀ (w : World) (o : Obj) (g : Nat), w.heap.size = g → (w.alloc o).heap[g]? = some o := fun w o g h => by subst h; exact heap_alloc_new _ _
    have bb : Below w.heap.size w w0 := by rw [hw0]; exact below_new (below_new (below_new (Below.refl _ _) _) _) _
    have RX : Hid (w0.heap[g]? = some (cellRow k u (.slice A n c))) := by
      show _ = _
      rw [hw0, hg]
      rw [Below.heap_alloc _ _ _ (by simp only [World.size_alloc]; omega), Below.heap_alloc _ _ _ (by simp only [World.size_alloc]; omega)]
      exact hat _ _ _ rfl
    have RZ : Hid (w0.heap[g + 1]? = some (.cells #[.int .i64 z0, .int .i64 z0] 44)) := by
      show _ = _
      rw [hw0, hg]
      rw [Below.heap_alloc _ _ _ (by simp only [World.size_alloc]; omega)]
      exact hat _ _ _ (by simp only [World.size_alloc])
    have RQ : Hid (w0.heap[g + 2]? = some (dotRow ⟨dx, dy⟩)) := by
      show _ = _
      rw [hw0, hg]
      skip
      exact hat _ _ _ (by simp only [World.size_alloc])
    replace RD := Lib.hid (RD.out.below bb)
    replace RK := Lib.hid (RK.out.below bb)
    replace HB := Lib.hid (below_then HB.out bb)
    clear bb hg hw0 hat
    go_enter Try.func6, Try.ntmps6
    go_upto_region 1 with fail
    rw [← HG.out]
    rw [show (((w.alloc (Obj.cells #[Value.int .i64 k, .int .i64 u.k, .int .i64 u.n, .string u.s, .slice A n c] 26)).alloc (Obj.cells #[Value.int .i64 z0, .int .i64 z0] 44)).alloc (Obj.cells #[Value.int .i64 dx, .int .i64 dy] 28)) = w0 from HW0.out.symm]
    clear HW0
    obtain ⟨RX0, RX1, RX2, RX3, RX4⟩ := cell_row5 RX.out
    go_wp2_with fail
    refine (FW.out _).mono ?_
    rintro e v1 ⟨rfl, bb⟩
    replace RX := Lib.hid (row_below RX.out bb)
    replace RZ := Lib.hid (row_below RZ.out bb)
    replace RQ := Lib.hid (row_below RQ.out bb)
    replace RD := Lib.hid (RD.out.below bb)
    replace RK := Lib.hid (RK.out.below bb)
    replace HB := Lib.hid (below_then HB.out bb)
    clear bb
    clear RX0 RX1 RX2 RX3 RX4
    obtain ⟨RX0, RX1, RX2, RX3, RX4⟩ := cell_row5 RX.out
    go_wp2_with fail
    refine (CR.out _ RD.out).mono ?_
    rintro e v2 ⟨rfl, bb⟩
    replace RX := Lib.hid (row_below RX.out bb)
    replace RZ := Lib.hid (row_below RZ.out bb)
    replace RQ := Lib.hid (row_below RQ.out bb)
    replace RD := Lib.hid (RD.out.below bb)
    replace RK := Lib.hid (RK.out.below bb)
    replace HB := Lib.hid (below_then HB.out bb)
    clear bb
    clear RX0 RX1 RX2 RX3 RX4
    obtain ⟨RX0, RX1, RX2, RX3, RX4⟩ := cell_row5 RX.out
    have RZ0 := cell_row RZ.out 0
    have RZ1 := cell_row RZ.out 1
    simp only [List.getElem?_toArray, List.getElem?_cons_zero, List.getElem?_cons_succ] at RZ0 RZ1
    obtain ⟨RQ0, RQ1⟩ := dot_row RQ.out
    try dsimp only at RQ0 RQ1
    go_wp2_with fail
    refine (T1.out _ RD.out RK.out).mono ?_
    rintro e v3 ⟨A1, d1, rfl, hrl, bb⟩
    replace RX := Lib.hid (row_below RX.out bb)
    replace RZ := Lib.hid (row_below RZ.out bb)
    replace RQ := Lib.hid (row_below RQ.out bb)
    replace RD := Lib.hid (RD.out.below bb)
    replace RK := Lib.hid (RK.out.below bb)
    replace HB := Lib.hid (below_then HB.out bb)
    clear bb
    have RL := Lib.hid hrl
    clear hrl
    clear RX0 RX1 RX2 RX3 RX4 RZ0 RZ1 RQ0 RQ1
    obtain ⟨v4, hw⟩ : ∃ w', w' = v3.alloc (cellRow k u (.slice A1 N d1)) := ⟨_, rfl⟩
    have RW : Hid (v4.heap[v3.heap.size]? = some (cellRow k u (.slice A1 N d1))) := by rw [hw]; exact heap_alloc_new _ _
    have bb : Below v3.heap.size v3 v4 := by rw [hw]; exact below_new (Below.refl _ _) _
    replace hw := Lib.hid hw
    replace RX := Lib.hid (row_below RX.out bb)
    replace RZ := Lib.hid (row_below RZ.out bb)
    replace RQ := Lib.hid (row_below RQ.out bb)
    replace RD := Lib.hid (RD.out.below bb)
    replace RK := Lib.hid (RK.out.below bb)
    replace RL := Lib.hid (RL.out.below bb)
    replace HB := Lib.hid (below_then HB.out bb)
    clear bb
    go_upto_region 4 with fail
    rw [show v3.alloc (Obj.cells #[Value.int .i64 k, .int .i64 u.k, .int .i64 u.n, .string u.s, .slice A1 N d1] 26) = v4 from hw.out.symm]
    clear hw
    generalize v3.heap.size = gRW at RW ⊢
    obtain ⟨RX0, RX1, RX2, RX3, RX4⟩ := cell_row5 RX.out
    clear T1 CR FW
    go_wp2_with fail
    go_loopw [10, 36] (fun s i wr => ∃ (j : Nat) (st : Bool), j ≤ n ∧ i = .int .i64 j ∧ s = .bool st ∧ Hid (st = staysB (l.take j) z0 ⟨dx, dy⟩ kn) ∧ Hid (Below v4.heap.size v4 wr)) (fun _ i _ => n - (intOf i).toNat)
    case atStart => exact ⟨0, false, Nat.zero_le _, rfl, rfl, by show _ = _; simp [staysB], Below.refl _ _⟩
    case round =>
      clear RX0 RX1 RX2 RX3 RX4
      obtain ⟨j, st, hj, rfl, rfl, hst, hbel⟩ := hrel
      replace RX := Lib.hid (row_below RX.out hbel.out); replace RZ := Lib.hid (row_below RZ.out hbel.out); replace RQ := Lib.hid (row_below RQ.out hbel.out); replace RW := Lib.hid (row_below RW.out hbel.out)
      replace RK := Lib.hid (RK.out.below hbel.out); replace RL := Lib.hid (RL.out.below hbel.out)
      replace HB := Lib.hid (below_then HB.out hbel.out)
      by_cases hlt : j < n
      · obtain ⟨b', o, x, rfl, hb', hx, hld⟩ := RD.out.part hlt
        obtain ⟨e0, e1, e2, e3, e4, e5, e6, e7, e8, e9, e10⟩ := hld wr hbel.out
        have HX := Lib.hid hx
        have HBV := Lib.hid hbel.out
        have hstep := Lib.hid (stays_step hx z0 ⟨dx, dy⟩ kn)
        clear hx hld hbel
        obtain ⟨v41, hw⟩ : ∃ w', w' = wr.alloc (partCells x) := ⟨_, rfl⟩
        have RP : Hid (v41.heap[wr.heap.size]? = some (partCells x)) := by rw [hw]; exact heap_alloc_new _ _
        have bb : Below wr.heap.size wr v41 := by rw [hw]; exact below_new (Below.refl _ _) _
        replace hw := Lib.hid hw
        replace RX := Lib.hid (row_below RX.out bb)
        replace RZ := Lib.hid (row_below RZ.out bb)
        replace RQ := Lib.hid (row_below RQ.out bb)
        replace RW := Lib.hid (row_below RW.out bb)
        replace RK := Lib.hid (RK.out.below bb)
        replace RL := Lib.hid (RL.out.below bb)
        replace HB := Lib.hid (below_then HB.out bb)
        replace HBV := Lib.hid (below_then HBV.out bb)
        clear bb
        go_upto_region 8 with fail
        rw [show wr.alloc (Obj.cells #[Value.int .i64 x.v.k, .int .i64 x.v.n, .string x.v.s, .int .i64 x.d.d, .int .i64 x.d.s, .int .i64 x.i, .int .i64 x.t, .int .i64 x.a.d, .int .i64 x.a.s, .int .i64 x.j, .bool x.g] 30) = v41 from hw.out.symm]
        clear hw
        generalize wr.heap.size = gRP at RP ⊢
        clear e0 e1 e2 e3 e4 e5 e6 e7 e8 e9 e10
        obtain ⟨r, hr⟩ : ∃ r, Hid (hasV kn x.d.d x.d.s = r) := ⟨_, rfl⟩
        have CH : Hid (∀ W : World, Rd W B m d (vals .i64 kn) → Calls Try.prog 15 #[.slice B m d, .agg #[.int .i64 x.d.d, .int .i64 x.d.s]] W fun e w' => e = .returned (.bool r) ∧ Below W.heap.size W w') := by
          intro W hW; rw [← hr.out]; exact refHas_any B m d kn x.d.d x.d.s W hW
        obtain ⟨q, hq⟩ : ∃ q, Hid (decide (x.d = ⟨dx, dy⟩) = q) := ⟨_, rfl⟩
        have EQ := fun W2 => run_equalIn_dot x.d.d x.d.s dx dy W2
        rw [show decide ((⟨x.d.d, x.d.s⟩ : D2) = ⟨dx, dy⟩) = q from hq.out] at EQ
        obtain ⟨RP0, RP1, RP2, RP3, RP4, RP5, RP6, RP7, RP8, RP9, RP10⟩ := part_row RP.out
        have RZ0 := cell_row RZ.out 0
        have RZ1 := cell_row RZ.out 1
        simp only [List.getElem?_toArray, List.getElem?_cons_zero, List.getElem?_cons_succ] at RZ0 RZ1
        obtain ⟨RQ0, RQ1⟩ := dot_row RQ.out
        try dsimp only at RQ0 RQ1
        cases st with
        | true =>
          have hs2 : Hid (true = staysB (l.take (j + 1)) z0 ⟨dx, dy⟩ kn) := by show _ = _; rw [hstep.out, ← hst.out]; simp
          go_wp2_with fail
          exact ⟨⟨j + 1, true, by omega, by go_num, rfl, hs2, HBV⟩, by simp [intOf]; omega⟩
        | false =>
          by_cases hv : x.v.n = z0
          rotate_left
          · have hv1 : (x.v.n == z0) = false := by simp [hv]
            have hv2 : decide (x.v.n = z0) = false := decide_eq_false hv
            have hs2 : Hid (false = staysB (l.take (j + 1)) z0 ⟨dx, dy⟩ kn) := by show _ = _; rw [hstep.out, ← hst.out, hv2]; simp
            clear hv
            go_wp2_with fail
            exact ⟨⟨j + 1, false, by omega, by go_num, rfl, hs2, HBV⟩, by simp [intOf]; omega⟩
          have hv1 : (x.v.n == z0) = true := by simp [hv]
          have hv2 : decide (x.v.n = z0) = true := decide_eq_true hv
          clear hv
          cases q with
          | true =>
            have hs2 : Hid (false = staysB (l.take (j + 1)) z0 ⟨dx, dy⟩ kn) := by show _ = _; rw [hstep.out, ← hst.out, hv2, hq.out]; simp
            go_wp2_with fail
            exact ⟨⟨j + 1, false, by omega, by go_num, rfl, hs2, HBV⟩, by simp [intOf]; omega⟩
          | false =>
            have hs2 : Hid ((!r) = staysB (l.take (j + 1)) z0 ⟨dx, dy⟩ kn) := by
              show _ = _
              rw [hstep.out, ← hst.out, hv2, hq.out, show knowsV kn x.d = r from hr.out]; simp
            go_wp2_with fail
            refine (CH.out _ RK.out).mono ?_
            rintro e v42 ⟨rfl, bb⟩
            replace RX := Lib.hid (row_below RX.out bb)
            replace RZ := Lib.hid (row_below RZ.out bb)
            replace RQ := Lib.hid (row_below RQ.out bb)
            replace RW := Lib.hid (row_below RW.out bb)
            replace RP := Lib.hid (row_below RP.out bb)
            replace RK := Lib.hid (RK.out.below bb)
            replace RL := Lib.hid (RL.out.below bb)
            replace HB := Lib.hid (below_then HB.out bb)
            replace HBV := Lib.hid (below_then HBV.out bb)
            clear bb
            go_wp2_with fail
            exact ⟨⟨j + 1, !r, by omega, by go_num, rfl, hs2, HBV⟩, by simp [intOf]; omega⟩
      · have hS2 : Hid (st = S) := by
          show _ = _
          rw [hst.out, List.take_of_length_le (by rw [HLN.out]; omega)]
          exact hS.out
        obtain rfl := hS2.out
        replace RD := Lib.hid (RD.out.below hbel.out)
        clear hbel hst hS hS2
        obtain ⟨RX0, RX1, RX2, RX3, RX4⟩ := cell_row5 RX.out
        have RZ0 := cell_row RZ.out 0
        have RZ1 := cell_row RZ.out 1
        simp only [List.getElem?_toArray, List.getElem?_cons_zero, List.getElem?_cons_succ] at RZ0 RZ1
        obtain ⟨RW0, RW1, RW2, RW3, RW4⟩ := cell_row5 RW.out
        have KA : Hid (∀ W, Below wr.heap.size wr W → (Below wr.heap.size wr W ∧ W.cell? ⟨g, 0, none⟩ = some (.int .i64 k) ∧ W.cell? ⟨g, 1, none⟩ = some (.int .i64 u.k) ∧ W.cell? ⟨g, 2, none⟩ = some (.int .i64 u.n) ∧ W.cell? ⟨g, 3, none⟩ = some (.string u.s) ∧ W.cell? ⟨g, 4, none⟩ = some (.slice A n c) ∧ W.cell? ⟨g + 1, 0, none⟩ = some (.int .i64 z0) ∧ W.cell? ⟨g + 1, 1, none⟩ = some (.int .i64 z0) ∧ W.cell? ⟨gRW, 0, none⟩ = some (.int .i64 k) ∧ W.cell? ⟨gRW, 1, none⟩ = some (.int .i64 u.k) ∧ W.cell? ⟨gRW, 2, none⟩ = some (.int .i64 u.n) ∧ W.cell? ⟨gRW, 3, none⟩ = some (.string u.s) ∧ W.cell? ⟨gRW, 4, none⟩ = some (.slice A1 N d1))) := by
          intro W hb
          have hc : ∀ (p : Addr) (y : Value), wr.cell? p = some y → W.cell? p = some y := fun p y h2 => (hb.cell (World.block_lt_of_cell? _ _ h2)).trans h2
          exact ⟨hb, hc _ _ RX0, hc _ _ RX1, hc _ _ RX2, hc _ _ RX3, hc _ _ RX4, hc _ _ RZ0, hc _ _ RZ1, hc _ _ RW0, hc _ _ RW1, hc _ _ RW2, hc _ _ RW3, hc _ _ RW4⟩
        clear RX0 RX1 RX2 RX3 RX4 RZ0 RZ1 RW0 RW1 RW2 RW3 RW4
        go_upto_region 10 with fail
        refine wp_region_noPanic ?_
        refine wp_region_held_drew (S := (fun W => Below wr.heap.size wr W ∧ W.cell? ⟨g, 0, none⟩ = some (.int .i64 k) ∧ W.cell? ⟨g, 1, none⟩ = some (.int .i64 u.k) ∧ W.cell? ⟨g, 2, none⟩ = some (.int .i64 u.n) ∧ W.cell? ⟨g, 3, none⟩ = some (.string u.s) ∧ W.cell? ⟨g, 4, none⟩ = some (.slice A n c) ∧ W.cell? ⟨g + 1, 0, none⟩ = some (.int .i64 z0) ∧ W.cell? ⟨g + 1, 1, none⟩ = some (.int .i64 z0) ∧ W.cell? ⟨gRW, 0, none⟩ = some (.int .i64 k) ∧ W.cell? ⟨gRW, 1, none⟩ = some (.int .i64 u.k) ∧ W.cell? ⟨gRW, 2, none⟩ = some (.int .i64 u.n) ∧ W.cell? ⟨gRW, 3, none⟩ = some (.string u.s) ∧ W.cell? ⟨gRW, 4, none⟩ = some (.slice A1 N d1))) (by kernel_rfl) ?_ (fun hHeld => ?_)
        · exact KA.out _ ((Below.refl _ _).drew)
        refine wpAnyH_ready (rs := [0]) (by kernel_rfl) (by simp) (AllReadyH.cons rfl (fun K hK => ?_) AllReadyH.nil)
        go_simp
        refine (alive9_any _).mono ?_
        rintro e wx ⟨rfl, bb⟩
        (try go_wp2_with fail)
        refine hK.out _ _ ?_ (fun hHeld => ?_)
        · (try dsimp only)
          exact KA.out _ (below_then hHeld.1 bb)
        clear hK K
        (try simp only [Act.put, List.setIfInBounds_toArray, List.set_cons_zero, List.set_cons_succ])
        refine wpAnyH_one (by kernel_rfl) (fun _ _ _ _ _ h => h) (by assumption) 1 30 (some 64) ?_ _ (by rfl) (by rfl) (by kernel_rfl) (by rfl) ?_ ?_
        rotate_left 1
        · intro W hSw
          (try dsimp only at hSw)
          go_simp
          (try with_reducible rfl)
        (try simp only [Act.put, List.setIfInBounds_toArray, List.set_cons_zero, List.set_cons_succ])
        refine wpAnyH_one (by kernel_rfl) (fun _ _ _ _ _ h => h) (by assumption) 2 29 (some 65) ?_ _ (by rfl) (by rfl) (by kernel_rfl) (by rfl) ?_ ?_
        rotate_left 1
        · intro W hSw
          (try dsimp only at hSw)
          go_simp
          (try with_reducible rfl)
        (try simp only [Act.put, List.setIfInBounds_toArray, List.set_cons_zero, List.set_cons_succ])
        refine wpAnyH_ready (rs := [3]) (by kernel_rfl) (by simp) (AllReadyH.cons rfl (fun K hK => ?_) AllReadyH.nil)
        go_simp
        refine (CR2.out _ _ _ (RL.out.below hHeld.1)).mono ?_
        rintro e wx ⟨rfl, bb⟩
        (try go_wp2_with fail)
        refine hK.out _ _ ?_ (fun hHeld => ?_)
        · (try dsimp only)
          exact KA.out _ (below_then hHeld.1 bb)
        clear hK K
        (try simp only [Act.put, List.setIfInBounds_toArray, List.set_cons_zero, List.set_cons_succ])
        refine wpAnyH_one (by kernel_rfl) (fun _ _ _ _ _ h => h) (by assumption) 4 27 (some 67) ?_ _ (by rfl) (by rfl) (by kernel_rfl) (by rfl) ?_ ?_
        rotate_left 1
        · intro W hSw
          (try dsimp only at hSw)
          go_simp
          (try with_reducible rfl)
        (try simp only [Act.put, List.setIfInBounds_toArray, List.set_cons_zero, List.set_cons_succ])
        refine wpAnyH_one (by kernel_rfl) (fun _ _ _ _ _ h => h) (by assumption) 5 26 (some 68) ?_ _ (by rfl) (by rfl) (by kernel_rfl) (by rfl) ?_ ?_
        rotate_left 1
        · intro W hSw
          (try dsimp only at hSw)
          go_simp
          (try with_reducible rfl)
        (try simp only [Act.put, List.setIfInBounds_toArray, List.set_cons_zero, List.set_cons_succ])
        refine wpAnyH_one (by kernel_rfl) (fun _ _ _ _ _ h => h) (by assumption) 6 25 (some 69) ?_ _ (by rfl) (by rfl) (by kernel_rfl) (by rfl) ?_ ?_
        rotate_left 1
        · intro W hSw
          (try dsimp only at hSw)
          go_simp
          (try with_reducible rfl)
        (try simp only [Act.put, List.setIfInBounds_toArray, List.set_cons_zero, List.set_cons_succ])
        refine wpAnyH_one (by kernel_rfl) (fun _ _ _ _ _ h => h) (by assumption) 7 24 (some 70) ?_ _ (by rfl) (by rfl) (by kernel_rfl) (by rfl) ?_ ?_
        rotate_left 1
        · intro W hSw
          (try dsimp only at hSw)
          go_simp
          (try with_reducible rfl)
        (try simp only [Act.put, List.setIfInBounds_toArray, List.set_cons_zero, List.set_cons_succ])
        refine wpAnyH_one (by kernel_rfl) (fun _ _ _ _ _ h => h) (by assumption) 8 23 (some 71) ?_ _ (by rfl) (by rfl) (by kernel_rfl) (by rfl) ?_ ?_
        rotate_left 1
        · intro W hSw
          (try dsimp only at hSw)
          go_simp
          (try with_reducible rfl)
        (try simp only [Act.put, List.setIfInBounds_toArray, List.set_cons_zero, List.set_cons_succ])
        refine wpAnyH_one (by kernel_rfl) (fun _ _ _ _ _ h => h) (by assumption) 10 22 (some 73) ?_ _ (by rfl) (by rfl) (by kernel_rfl) (by rfl) ?_ ?_
        rotate_left 1
        · intro W hSw
          (try dsimp only at hSw)
          go_simp
          (try with_reducible rfl)
        (try simp only [Act.put, List.setIfInBounds_toArray, List.set_cons_zero, List.set_cons_succ])
        refine wpAnyH_ready (rs := [9]) (by kernel_rfl) (by simp) (AllReadyH.cons rfl (fun K hK => ?_) AllReadyH.nil)
        go_simp
        refine (H1.out _ _ _ (RL.out.below hHeld.1)).mono ?_
        rintro e wx ⟨rfl, bb⟩
        (try go_wp2_with fail)
        refine hK.out _ _ ?_ (fun hHeld => ?_)
        · (try dsimp only)
          exact KA.out _ (below_then hHeld.1 bb)
        clear hK K
        (try simp only [Act.put, List.setIfInBounds_toArray, List.set_cons_zero, List.set_cons_succ])
        refine wpAnyH_one (by kernel_rfl) (fun _ _ _ _ _ h => h) (by assumption) 11 20 (some 74) ?_ _ (by rfl) (by rfl) (by kernel_rfl) (by rfl) ?_ ?_
        rotate_left 1
        · intro W hSw
          (try dsimp only at hSw)
          go_simp
          (try with_reducible rfl)
        (try simp only [Act.put, List.setIfInBounds_toArray, List.set_cons_zero, List.set_cons_succ])
        refine wpAnyH_one (by kernel_rfl) (fun _ _ _ _ _ h => h) (by assumption) 12 19 (some 75) ?_ _ (by rfl) (by rfl) (by kernel_rfl) (by rfl) ?_ ?_
        rotate_left 1
        · intro W hSw
          (try dsimp only at hSw)
          go_simp
          (try with_reducible rfl)
        (try simp only [Act.put, List.setIfInBounds_toArray, List.set_cons_zero, List.set_cons_succ])
        refine wpAnyH_one (by kernel_rfl) (fun _ _ _ _ _ h => h) (by assumption) 13 18 (some 76) ?_ _ (by rfl) (by rfl) (by kernel_rfl) (by rfl) ?_ ?_
        rotate_left 1
        · intro W hSw
          (try dsimp only at hSw)
          go_simp
          (try with_reducible rfl)
        (try simp only [Act.put, List.setIfInBounds_toArray, List.set_cons_zero, List.set_cons_succ])
        refine wpAnyH_one (by kernel_rfl) (fun _ _ _ _ _ h => h) (by assumption) 14 17 (some 77) ?_ _ (by rfl) (by rfl) (by kernel_rfl) (by rfl) ?_ ?_
        rotate_left 1
        · intro W hSw
          (try dsimp only at hSw)
          go_simp
          (try with_reducible rfl)
        (try simp only [Act.put, List.setIfInBounds_toArray, List.set_cons_zero, List.set_cons_succ])
        refine wpAnyH_one (by kernel_rfl) (fun _ _ _ _ _ h => h) (by assumption) 15 16 (some 78) ?_ _ (by rfl) (by rfl) (by kernel_rfl) (by rfl) ?_ ?_
        rotate_left 1
        · intro W hSw
          (try dsimp only at hSw)
          go_simp
          (try with_reducible rfl)
        (try simp only [Act.put, List.setIfInBounds_toArray, List.set_cons_zero, List.set_cons_succ])
        refine wpAnyH_one (by kernel_rfl) (fun _ _ _ _ _ h => h) (by assumption) 16 15 (some 79) ?_ _ (by rfl) (by rfl) (by kernel_rfl) (by rfl) ?_ ?_
        rotate_left 1
        · intro W hSw
          (try dsimp only at hSw)
          go_simp
          (try with_reducible rfl)
        (try simp only [Act.put, List.setIfInBounds_toArray, List.set_cons_zero, List.set_cons_succ])
        refine wpAnyH_one (by kernel_rfl) (fun _ _ _ _ _ h => h) (by assumption) 17 14 (some 80) ?_ _ (by rfl) (by rfl) (by kernel_rfl) (by rfl) ?_ ?_
        rotate_left 1
        · intro W hSw
          (try dsimp only at hSw)
          go_simp
          (try with_reducible rfl)
        (try simp only [Act.put, List.setIfInBounds_toArray, List.set_cons_zero, List.set_cons_succ])
        refine wpAnyH_one (by kernel_rfl) (fun _ _ _ _ _ h => h) (by assumption) 18 13 (some 81) ?_ _ (by rfl) (by rfl) (by kernel_rfl) (by rfl) ?_ ?_
        rotate_left 1
        · intro W hSw
          (try dsimp only at hSw)
          go_simp
          (try with_reducible rfl)
        (try simp only [Act.put, List.setIfInBounds_toArray, List.set_cons_zero, List.set_cons_succ])
        refine wpAnyH_one (by kernel_rfl) (fun _ _ _ _ _ h => h) (by assumption) 19 12 (some 82) ?_ _ (by rfl) (by rfl) (by kernel_rfl) (by rfl) ?_ ?_
        rotate_left 1
        · intro W hSw
          (try dsimp only at hSw)
          go_simp
          (try with_reducible rfl)
        (try simp only [Act.put, List.setIfInBounds_toArray, List.set_cons_zero, List.set_cons_succ])
        refine wpAnyH_puts (by kernel_rfl) (fun _ _ _ _ _ h => h) (by assumption) [20, 21, 22, 23, 24, 25, 26, 27, 28] 3 [(some 83, undef), (some 84, undef), (some 85, undef), (some 86, undef), (some 87, undef), (some 88, undef), (some 89, undef), (some 90, undef), (some 91, undef)] (by kernel_rfl) (by kernel_rfl) ?_
        (try simp only [putsOf, Act.put, List.setIfInBounds_toArray, List.set_cons_zero, List.set_cons_succ])
        refine wpAnyH_one (by kernel_rfl) (fun _ _ _ _ _ h => h) (by assumption) 29 2 (some 92) ?_ _ (by rfl) (by rfl) (by kernel_rfl) (by rfl) ?_ ?_
        rotate_left 1
        · intro W hSw
          (try dsimp only at hSw)
          go_simp
          (try with_reducible rfl)
        (try simp only [Act.put, List.setIfInBounds_toArray, List.set_cons_zero, List.set_cons_succ])
        refine wpAnyH_one (by kernel_rfl) (fun _ _ _ _ _ h => h) (by assumption) 30 1 (some 93) ?_ _ (by rfl) (by rfl) (by kernel_rfl) (by rfl) ?_ ?_
        rotate_left 1
        · intro W hSw
          (try dsimp only at hSw)
          go_simp
          (try with_reducible rfl)
        (try simp only [Act.put, List.setIfInBounds_toArray, List.set_cons_zero, List.set_cons_succ])
        refine wpAnyH_one (by kernel_rfl) (fun _ _ _ _ _ h => h) (by assumption) 31 0 (some 8) ?_ _ (by rfl) (by rfl) (by kernel_rfl) (by rfl) ?_ ?_
        rotate_left 1
        · intro W hSw
          (try dsimp only at hSw)
          go_simp
          (try with_reducible rfl)
        (try simp only [Act.put, List.setIfInBounds_toArray, List.set_cons_zero, List.set_cons_succ])
        refine wpAnyH_done (by kernel_rfl) ?_ _
        refine NoPanic.normal ?_
        (try simp only [Act.put, List.setIfInBounds_toArray, List.set_cons_zero, List.set_cons_succ])
        have HZ := Lib.hid (below_then HB.out hHeld.1)
        go_wp2_with fail
        go_ret
        exact ⟨rfl, HZ.out⟩

set_option maxRecDepth 100000 in
theorem contract (H : Type) (enc : TypeId × Value → H) (W : World) (base : Nat) (args : Array Value) (ds gs : List (DataW H)) (before : List MemPlace)
    (hval : ∀ (j : Nat) t v, Try.f6.params[j]? = some t → args[j]? = some v → Value.okWide Try.prog W .any base t v)
    (hW : DataW.Whole enc Try.prog Try.f6.params.toList Rows.bagTakesSpec.vars false W args.toList ds gs before) :
    Calls Try.prog 6 args W fun e W' => ∃ v, e = .returned v ∧ Rows.bagTakesSpec.post enc Try.prog Try.f6 false true false false W args v W' := by
  have hlt : ∀ x ∈ before, x.block < W.heap.size := fun x hx => by simpa using hW.lt x hx
  refine law_step 4 Try.laid_ (by kernel_rfl) rfl Try.underlying4 rfl hW (fun xs hx => ?_) ?_
  · match xs, hx with
    | [d0, d1, d2, d3], _ => rfl
  · obtain ⟨p, q, hA0, hV, rfl, _, _⟩ := hW
    have hA : DataW.TrodAll enc Try.prog W 0 (fun _ => true) true Try.f6.params.toList args.toList ds p := hA0
    rw [Try.params6] at hA hval
    obtain ⟨v0, vs0, d0, ds0, p0, q0, e0, rfl, rfl, h0, r0⟩ := trodAll_cons hA
    obtain ⟨v1, vs1, d1, ds1, p1, q1, e1, rfl, rfl, h1, r1⟩ := trodAll_cons r0
    obtain ⟨v2, vs2, d2, ds2, p2, q2, e2, rfl, rfl, h2, r2⟩ := trodAll_cons r1
    obtain ⟨v3, vs3, d3, ds3, p3, q3, e3, rfl, rfl, h3, r3⟩ := trodAll_cons r2
    obtain ⟨rfl, rfl, rfl⟩ := trodAll_nil r3
    subst e3
    subst e2
    subst e1
    obtain rfl : args = #[v0, v1, v2, v3] := by cases args; simp_all
    clear e0 hA0
    obtain ⟨k0, u0, A0, n0, c0, l, rfl, rd0, wk0, wu0, wl0⟩ := open_cell (hval 0 26 v0 rfl rfl) h0
    obtain ⟨x1, y1, rfl, wx1, wy1⟩ := open_arr2 (hval 1 44 v1 rfl rfl) h1
    obtain ⟨x2, y2, rfl, wx2, wy2⟩ := open_dot (hval 2 28 v2 rfl rfl) h2
    obtain ⟨A3, n3, c3, kn, rfl, rd3, wf3⟩ := open_vec (hval 3 33 v3 rfl rfl) h3 (fun x hx => hlt x (by simp [hx]))
    exact walk k0 u0 A0 n0 c0 l x1 y1 x2 y2 A3 n3 c3 kn W rd0 rd3

set_option maxRecDepth 100000 in
theorem lifted (os : Os) (started : os.Started) (H : Type) (enc : TypeId × Value → H) :
    ReturnsInHanded {} Try.checked os 6 .any (Rows.bagTakesSpec.pre6 enc Try.prog Try.f6 Rows.bagTakesRow.domain false) (Rows.bagTakesSpec.post enc Try.prog Try.f6 false true false false) := by
  refine returnsInHanded_of_change (C := Try.checked) Try.own_ started (by kernel_rfl) Try.func6
    (ChangeSpec.witness6 (enc := enc) (C := Try.checked) false ⟨#[], #[.agg #[.int .i64 0, .int .i64 0, .int .i64 0, .string ⟨#[]⟩, .slice none 0 0], .agg #[.int .i64 0, .int .i64 0], .agg #[.int .i64 0, .int .i64 0], .slice none 0 0], []⟩ 8 (by kernel_rfl) (by kernel_rfl) (by kernel_rfl) (by kernel_rfl)) ?_
  intro W base args ds gs before hval hW _ _
  exact contract H enc W base args ds gs before hval hW

theorem holds : Rows.BagTakesSaid :=
  OpenClaim.holds_of_wide 6 Try.f6 rfl rfl rfl rfl rfl rfl rfl ⟨rfl, rfl, rfl, rfl, rfl⟩ rfl rfl rfl rfl rfl (by kernel_rfl) Try.func6 (by kernel_rfl)
    (of_decide_eq_true (by kernel_rfl)) (by unfold Func.isWrapper; first | (rw [if_pos (by decide +kernel)]; kernel_rfl) | (rw [if_neg (by decide +kernel)]; exact ⟨rfl, rfl⟩))
    (fun os started H enc _ => lifted os started H enc)
end Go.Proofs.Ytomdbjmbkfdcmaa.bagTakes

