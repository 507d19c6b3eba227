/- A put of which a taker did not know outlasts the take, in whichever order the two came; so do puts, and takes, of unlike numbers not change one another. Of all cells, numbers, dots, vectors. -/
import Derived.Test.YtomdbjmbkfdcmaaRows
import Derived.Test.YtomdbjmbkfdcmaaMbBase
import Derived.Test.YtomdbjmbkfdcmaaMbBagAlive
import Derived.Test.YtomdbjmbkfdcmaaMbBagFacts
import Derived.Test.YtomdbjmbkfdcmaaMbBagFew
import Derived.Test.YtomdbjmbkfdcmaaMbOpen
import Derived.Test.YtomdbjmbkfdcmaaMbVecOpen
import Derived.Test.YtomdbjmbkfdcmaaMbBagOpen
namespace Go.Proofs.Ytomdbjmbkfdcmaa.bagWins
open Go.ChangeShapes Go.WideShapes Go.ChangeAt Go.RowKit Go.ChangeMaps

set_option maxRecDepth 100000 in
set_option maxHeartbeats 12800000 in
theorem walk (k : Int) (u : V3) (A : Option Addr) (n c : Nat) (l : List P11) (z0 z1 dx dy ex ey : Int) (B : Option Addr) (m d : Nat) (kn : List Int) (w : World) (h : RdP w A n c l) (hk : Rd w B m d (vals .i64 kn)) :
    Calls Try.prog 7 #[cellV k u (.slice A n c), .agg #[.int .i64 z0, .int .i64 z1], .agg #[.int .i64 dx, .int .i64 dy, .int .i64 ex, .int .i64 ey], .slice B m d] w fun e w' => e = .returned (.bool true) ∧ Below w.heap.size w w' := by
  have HB := Lib.hid (Below.refl w.heap.size w)
  have HLN := Lib.hid h.len
  have hle := h.le
  have RD := Lib.hid h
  have RK := Lib.hid hk
  clear h hk
  obtain ⟨r, hr⟩ : ∃ r, Hid (rightS k u l = r) := ⟨_, rfl⟩
  have CR : Hid (∀ W : World, RdP W A n c l → Calls Try.prog 18 #[cellV k u (.slice A n c)] W fun e w' => e = .returned (.bool r) ∧ Below W.heap.size W w') := by
    intro W hW; rw [← hr.out]; exact rightS_any k u A n c l W hW
  obtain ⟨q, hq⟩ : ∃ q, Hid (decide ((⟨dx, dy⟩ : D2) = ⟨ex, ey⟩) = q) := ⟨_, rfl⟩
  have EQ := fun W2 => run_equalIn_dot dx dy ex ey W2
  rw [hq.out] at EQ
  by_cases hn : n ≤ 60
  rotate_left
  · have FW : Hid (∀ W : World, Calls Try.prog 17 #[cellV k u (.slice A n c)] W fun e w' => e = .returned (.bool false) ∧ Below W.heap.size W w') := by
      intro W
      have := few9_any k u A n c W
      rwa [decide_eq_false (by omega)] at this
    clear hn
    obtain ⟨g, hg⟩ : ∃ g, g = w.heap.size := ⟨_, rfl⟩
    obtain ⟨w0, hw0⟩ : ∃ w1, w1 = (((w.alloc (cellRow k u (.slice A n c))).alloc (.cells #[.int .i64 z0, .int .i64 z1] 44)).alloc (.cells #[.int .i64 dx, .int .i64 dy, .int .i64 ex, .int .i64 ey] 50)) := ⟨_, rfl⟩
    have HW0 := Lib.hid hw0; have HG := Lib.hid hg
    have hat : ∀ (w : World) (o : Obj) (g : Nat), w.heap.size = g → (w.alloc o).heap[g]? = some o := fun w o g h => by subst h; exact heap_alloc_new _ _
    have bb : Below w.heap.size w w0 := by rw [hw0]; exact below_new (below_new (below_new (Below.refl _ _) _) _) _
    have RX : Hid (w0.heap[g]? = some (cellRow k u (.slice A n c))) := by
      show _ = _
      rw [hw0, hg]
      rw [Below.heap_alloc _ _ _ (by simp only [World.size_alloc]; omega), Below.heap_alloc _ _ _ (by simp only [World.size_alloc]; omega)]
      exact hat _ _ _ rfl
    have RZ : Hid (w0.heap[g + 1]? = some (.cells #[.int .i64 z0, .int .i64 z1] 44)) := by
      show _ = _
      rw [hw0, hg]
      rw [Below.heap_alloc _ _ _ (by simp only [World.size_alloc]; omega)]
      exact hat _ _ _ (by simp only [World.size_alloc])
    have RQ : Hid (w0.heap[g + 2]? = some (.cells #[.int .i64 dx, .int .i64 dy, .int .i64 ex, .int .i64 ey] 50)) := by
      show _ = _
      rw [hw0, hg]
      skip
      exact hat _ _ _ (by simp only [World.size_alloc])
    replace RD := Lib.hid (RD.out.below bb)
    replace RK := Lib.hid (RK.out.below bb)
    replace HB := Lib.hid (below_then HB.out bb)
    clear bb hg hw0 hat
    go_enter Try.func7, Try.ntmps7
    go_upto_region 1 with fail
    rw [← HG.out]
    rw [show (((w.alloc (Obj.cells #[Value.int .i64 k, .int .i64 u.k, .int .i64 u.n, .string u.s, .slice A n c] 26)).alloc (Obj.cells #[Value.int .i64 z0, .int .i64 z1] 44)).alloc (Obj.cells #[Value.int .i64 dx, .int .i64 dy, .int .i64 ex, .int .i64 ey] 50)) = w0 from HW0.out.symm]
    clear HW0
    obtain ⟨RX0, RX1, RX2, RX3, RX4⟩ := cell_row5 RX.out
    go_wp2_with fail
    refine (FW.out _).mono ?_
    rintro e v1 ⟨rfl, bb⟩
    replace RX := Lib.hid (row_below RX.out bb)
    replace RZ := Lib.hid (row_below RZ.out bb)
    replace RQ := Lib.hid (row_below RQ.out bb)
    replace RD := Lib.hid (RD.out.below bb)
    replace RK := Lib.hid (RK.out.below bb)
    replace HB := Lib.hid (below_then HB.out bb)
    clear bb
    clear RX0 RX1 RX2 RX3 RX4
    go_wp2_with fail
    refine (alive9_any _).mono ?_
    rintro e v2 ⟨rfl, bb⟩
    replace RX := Lib.hid (row_below RX.out bb)
    replace RZ := Lib.hid (row_below RZ.out bb)
    replace RQ := Lib.hid (row_below RQ.out bb)
    replace RD := Lib.hid (RD.out.below bb)
    replace RK := Lib.hid (RK.out.below bb)
    replace HB := Lib.hid (below_then HB.out bb)
    clear bb
    go_wp2_with fail
    go_ret
    exact ⟨rfl, HB.out⟩
  by_cases hm : m ≤ 100
  rotate_left
  · have FW : Hid (∀ W : World, Calls Try.prog 17 #[cellV k u (.slice A n c)] W fun e w' => e = .returned (.bool true) ∧ Below W.heap.size W w') := by
      intro W
      have := few9_any k u A n c W
      rwa [decide_eq_true (by omega)] at this
    have hm1 : (100 : Int) < (m : Int) := by omega
    clear hn hm
    obtain ⟨g, hg⟩ : ∃ g, g = w.heap.size := ⟨_, rfl⟩
    obtain ⟨w0, hw0⟩ : ∃ w1, w1 = (((w.alloc (cellRow k u (.slice A n c))).alloc (.cells #[.int .i64 z0, .int .i64 z1] 44)).alloc (.cells #[.int .i64 dx, .int .i64 dy, .int .i64 ex, .int .i64 ey] 50)) := ⟨_, rfl⟩
    have HW0 := Lib.hid hw0; have HG := Lib.hid hg
    have hat : ∀ (w : World) (o : Obj) (g : Nat), w.heap.size = g → (w.alloc o).heap[g]? = some o := fun w o g h => by subst h; exact heap_alloc_new _ _
    have bb : Below w.heap.size w w0 := by rw [hw0]; exact below_new (below_new (below_new (Below.refl _ _) _) _) _
    have RX : Hid (w0.heap[g]? = some (cellRow k u (.slice A n c))) := by
      show _ = _
      rw [hw0, hg]
      rw [Below.heap_alloc _ _ _ (by simp only [World.size_alloc]; omega), Below.heap_alloc _ _ _ (by simp only [World.size_alloc]; omega)]
      exact hat _ _ _ rfl
    have RZ : Hid (w0.heap[g + 1]? = some (.cells #[.int .i64 z0, .int .i64 z1] 44)) := by
      show _ = _
      rw [hw0, hg]
      rw [Below.heap_alloc _ _ _ (by simp only [World.size_alloc]; omega)]
      exact hat _ _ _ (by simp only [World.size_alloc])
    have RQ : Hid (w0.heap[g + 2]? = some (.cells #[.int .i64 dx, .int .i64 dy, .int .i64 ex, .int .i64 ey] 50)) := by
      show _ = _
      rw [hw0, hg]
      skip
      exact hat _ _ _ (by simp only [World.size_alloc])
    replace RD := Lib.hid (RD.out.below bb)
    replace RK := Lib.hid (RK.out.below bb)
    replace HB := Lib.hid (below_then HB.out bb)
    clear bb hg hw0 hat
    go_enter Try.func7, Try.ntmps7
    go_upto_region 1 with fail
    rw [← HG.out]
    rw [show (((w.alloc (Obj.cells #[Value.int .i64 k, .int .i64 u.k, .int .i64 u.n, .string u.s, .slice A n c] 26)).alloc (Obj.cells #[Value.int .i64 z0, .int .i64 z1] 44)).alloc (Obj.cells #[Value.int .i64 dx, .int .i64 dy, .int .i64 ex, .int .i64 ey] 50)) = w0 from HW0.out.symm]
    clear HW0
    obtain ⟨RX0, RX1, RX2, RX3, RX4⟩ := cell_row5 RX.out
    go_wp2_with fail
    refine (FW.out _).mono ?_
    rintro e v1 ⟨rfl, bb⟩
    replace RX := Lib.hid (row_below RX.out bb)
    replace RZ := Lib.hid (row_below RZ.out bb)
    replace RQ := Lib.hid (row_below RQ.out bb)
    replace RD := Lib.hid (RD.out.below bb)
    replace RK := Lib.hid (RK.out.below bb)
    replace HB := Lib.hid (below_then HB.out bb)
    clear bb
    clear RX0 RX1 RX2 RX3 RX4
    go_wp2_with fail
    refine (alive9_any _).mono ?_
    rintro e v2 ⟨rfl, bb⟩
    replace RX := Lib.hid (row_below RX.out bb)
    replace RZ := Lib.hid (row_below RZ.out bb)
    replace RQ := Lib.hid (row_below RQ.out bb)
    replace RD := Lib.hid (RD.out.below bb)
    replace RK := Lib.hid (RK.out.below bb)
    replace HB := Lib.hid (below_then HB.out bb)
    clear bb
    go_wp2_with fail
    go_ret
    exact ⟨rfl, HB.out⟩
  cases r with
  | false =>
    have FW : Hid (∀ W : World, Calls Try.prog 17 #[cellV k u (.slice A n c)] W fun e w' => e = .returned (.bool true) ∧ Below W.heap.size W w') := by
      intro W
      have := few9_any k u A n c W
      rwa [decide_eq_true (by omega)] at this
    have hm1 : ¬ (100 : Int) < (m : Int) := by omega
    clear hn hm
    obtain ⟨g, hg⟩ : ∃ g, g = w.heap.size := ⟨_, rfl⟩
    obtain ⟨w0, hw0⟩ : ∃ w1, w1 = (((w.alloc (cellRow k u (.slice A n c))).alloc (.cells #[.int .i64 z0, .int .i64 z1] 44)).alloc (.cells #[.int .i64 dx, .int .i64 dy, .int .i64 ex, .int .i64 ey] 50)) := ⟨_, rfl⟩
    have HW0 := Lib.hid hw0; have HG := Lib.hid hg
    have hat : ∀ (w : World) (o : Obj) (g : Nat), w.heap.size = g → (w.alloc o).heap[g]? = some o := fun w o g h => by subst h; exact heap_alloc_new _ _
    have bb : Below w.heap.size w w0 := by rw [hw0]; exact below_new (below_new (below_new (Below.refl _ _) _) _) _
    have RX : Hid (w0.heap[g]? = some (cellRow k u (.slice A n c))) := by
      show _ = _
      rw [hw0, hg]
      rw [Below.heap_alloc _ _ _ (by simp only [World.size_alloc]; omega), Below.heap_alloc _ _ _ (by simp only [World.size_alloc]; omega)]
      exact hat _ _ _ rfl
    have RZ : Hid (w0.heap[g + 1]? = some (.cells #[.int .i64 z0, .int .i64 z1] 44)) := by
      show _ = _
      rw [hw0, hg]
      rw [Below.heap_alloc _ _ _ (by simp only [World.size_alloc]; omega)]
      exact hat _ _ _ (by simp only [World.size_alloc])
    have RQ : Hid (w0.heap[g + 2]? = some (.cells #[.int .i64 dx, .int .i64 dy, .int .i64 ex, .int .i64 ey] 50)) := by
      show _ = _
      rw [hw0, hg]
      skip
      exact hat _ _ _ (by simp only [World.size_alloc])
    replace RD := Lib.hid (RD.out.below bb)
    replace RK := Lib.hid (RK.out.below bb)
    replace HB := Lib.hid (below_then HB.out bb)
    clear bb hg hw0 hat
    go_enter Try.func7, Try.ntmps7
    go_upto_region 1 with fail
    rw [← HG.out]
    rw [show (((w.alloc (Obj.cells #[Value.int .i64 k, .int .i64 u.k, .int .i64 u.n, .string u.s, .slice A n c] 26)).alloc (Obj.cells #[Value.int .i64 z0, .int .i64 z1] 44)).alloc (Obj.cells #[Value.int .i64 dx, .int .i64 dy, .int .i64 ex, .int .i64 ey] 50)) = w0 from HW0.out.symm]
    clear HW0
    obtain ⟨RX0, RX1, RX2, RX3, RX4⟩ := cell_row5 RX.out
    go_wp2_with fail
    refine (FW.out _).mono ?_
    rintro e v1 ⟨rfl, bb⟩
    replace RX := Lib.hid (row_below RX.out bb)
    replace RZ := Lib.hid (row_below RZ.out bb)
    replace RQ := Lib.hid (row_below RQ.out bb)
    replace RD := Lib.hid (RD.out.below bb)
    replace RK := Lib.hid (RK.out.below bb)
    replace HB := Lib.hid (below_then HB.out bb)
    clear bb
    clear RX0 RX1 RX2 RX3 RX4
    obtain ⟨RX0, RX1, RX2, RX3, RX4⟩ := cell_row5 RX.out
    go_wp2_with fail
    refine (CR.out _ RD.out).mono ?_
    rintro e v2 ⟨rfl, bb⟩
    replace RX := Lib.hid (row_below RX.out bb)
    replace RZ := Lib.hid (row_below RZ.out bb)
    replace RQ := Lib.hid (row_below RQ.out bb)
    replace RD := Lib.hid (RD.out.below bb)
    replace RK := Lib.hid (RK.out.below bb)
    replace HB := Lib.hid (below_then HB.out bb)
    clear bb
    clear RX0 RX1 RX2 RX3 RX4
    go_wp2_with fail
    refine (alive9_any _).mono ?_
    rintro e v3 ⟨rfl, bb⟩
    replace RX := Lib.hid (row_below RX.out bb)
    replace RZ := Lib.hid (row_below RZ.out bb)
    replace RQ := Lib.hid (row_below RQ.out bb)
    replace RD := Lib.hid (RD.out.below bb)
    replace RK := Lib.hid (RK.out.below bb)
    replace HB := Lib.hid (below_then HB.out bb)
    clear bb
    go_wp2_with fail
    go_ret
    exact ⟨rfl, HB.out⟩
  | true =>
  cases q with
  | true =>
    have FW : Hid (∀ W : World, Calls Try.prog 17 #[cellV k u (.slice A n c)] W fun e w' => e = .returned (.bool true) ∧ Below W.heap.size W w') := by
      intro W
      have := few9_any k u A n c W
      rwa [decide_eq_true (by omega)] at this
    have hm1 : ¬ (100 : Int) < (m : Int) := by omega
    clear hn hm
    obtain ⟨g, hg⟩ : ∃ g, g = w.heap.size := ⟨_, rfl⟩
    obtain ⟨w0, hw0⟩ : ∃ w1, w1 = (((w.alloc (cellRow k u (.slice A n c))).alloc (.cells #[.int .i64 z0, .int .i64 z1] 44)).alloc (.cells #[.int .i64 dx, .int .i64 dy, .int .i64 ex, .int .i64 ey] 50)) := ⟨_, rfl⟩
    have HW0 := Lib.hid hw0; have HG := Lib.hid hg
    have hat : ∀ (w : World) (o : Obj) (g : Nat), w.heap.size = g → (w.alloc o).heap[g]? = some o := fun w o g h => by subst h; exact heap_alloc_new _ _
    have bb : Below w.heap.size w w0 := by rw [hw0]; exact below_new (below_new (below_new (Below.refl _ _) _) _) _
    have RX : Hid (w0.heap[g]? = some (cellRow k u (.slice A n c))) := by
      show _ = _
      rw [hw0, hg]
      rw [Below.heap_alloc _ _ _ (by simp only [World.size_alloc]; omega), Below.heap_alloc _ _ _ (by simp only [World.size_alloc]; omega)]
      exact hat _ _ _ rfl
    have RZ : Hid (w0.heap[g + 1]? = some (.cells #[.int .i64 z0, .int .i64 z1] 44)) := by
      show _ = _
      rw [hw0, hg]
      rw [Below.heap_alloc _ _ _ (by simp only [World.size_alloc]; omega)]
      exact hat _ _ _ (by simp only [World.size_alloc])
    have RQ : Hid (w0.heap[g + 2]? = some (.cells #[.int .i64 dx, .int .i64 dy, .int .i64 ex, .int .i64 ey] 50)) := by
      show _ = _
      rw [hw0, hg]
      skip
      exact hat _ _ _ (by simp only [World.size_alloc])
    replace RD := Lib.hid (RD.out.below bb)
    replace RK := Lib.hid (RK.out.below bb)
    replace HB := Lib.hid (below_then HB.out bb)
    clear bb hg hw0 hat
    go_enter Try.func7, Try.ntmps7
    go_upto_region 1 with fail
    rw [← HG.out]
    rw [show (((w.alloc (Obj.cells #[Value.int .i64 k, .int .i64 u.k, .int .i64 u.n, .string u.s, .slice A n c] 26)).alloc (Obj.cells #[Value.int .i64 z0, .int .i64 z1] 44)).alloc (Obj.cells #[Value.int .i64 dx, .int .i64 dy, .int .i64 ex, .int .i64 ey] 50)) = w0 from HW0.out.symm]
    clear HW0
    obtain ⟨RX0, RX1, RX2, RX3, RX4⟩ := cell_row5 RX.out
    go_wp2_with fail
    refine (FW.out _).mono ?_
    rintro e v1 ⟨rfl, bb⟩
    replace RX := Lib.hid (row_below RX.out bb)
    replace RZ := Lib.hid (row_below RZ.out bb)
    replace RQ := Lib.hid (row_below RQ.out bb)
    replace RD := Lib.hid (RD.out.below bb)
    replace RK := Lib.hid (RK.out.below bb)
    replace HB := Lib.hid (below_then HB.out bb)
    clear bb
    clear RX0 RX1 RX2 RX3 RX4
    obtain ⟨RX0, RX1, RX2, RX3, RX4⟩ := cell_row5 RX.out
    go_wp2_with fail
    refine (CR.out _ RD.out).mono ?_
    rintro e v2 ⟨rfl, bb⟩
    replace RX := Lib.hid (row_below RX.out bb)
    replace RZ := Lib.hid (row_below RZ.out bb)
    replace RQ := Lib.hid (row_below RQ.out bb)
    replace RD := Lib.hid (RD.out.below bb)
    replace RK := Lib.hid (RK.out.below bb)
    replace HB := Lib.hid (below_then HB.out bb)
    clear bb
    clear RX0 RX1 RX2 RX3 RX4
    have RQ0 := cell_row RQ.out 0
    have RQ1 := cell_row RQ.out 1
    have RQ2 := cell_row RQ.out 2
    have RQ3 := cell_row RQ.out 3
    simp only [List.getElem?_toArray, List.getElem?_cons_zero, List.getElem?_cons_succ] at RQ0 RQ1 RQ2 RQ3
    go_wp2_with fail
    refine (alive9_any _).mono ?_
    rintro e v3 ⟨rfl, bb⟩
    replace RX := Lib.hid (row_below RX.out bb)
    replace RZ := Lib.hid (row_below RZ.out bb)
    replace RQ := Lib.hid (row_below RQ.out bb)
    replace RD := Lib.hid (RD.out.below bb)
    replace RK := Lib.hid (RK.out.below bb)
    replace HB := Lib.hid (below_then HB.out bb)
    clear bb
    go_wp2_with fail
    go_ret
    exact ⟨rfl, HB.out⟩
  | false =>
  have FW : Hid (∀ W : World, Calls Try.prog 17 #[cellV k u (.slice A n c)] W fun e w' => e = .returned (.bool true) ∧ Below W.heap.size W w') := by
    intro W
    have := few9_any k u A n c W
    rwa [decide_eq_true (by omega)] at this
  have hm1 : ¬ (100 : Int) < (m : Int) := by omega
  have hn6 : n ≤ 60 := hn
  have hde : ¬ (⟨dx, dy⟩ : D2) = ⟨ex, ey⟩ := of_decide_eq_false hq.out
  obtain ⟨Lp, hLp⟩ : ∃ L, Hid (putB l ⟨z0, ⟨dx, dy⟩⟩ = L) := ⟨_, rfl⟩
  obtain ⟨Np, hNNp⟩ : ∃ N, Hid (Lp.length = N) := ⟨_, rfl⟩
  obtain ⟨L1, hL1⟩ : ∃ L, Hid (takeB Lp z1 ⟨ex, ey⟩ kn = L) := ⟨_, rfl⟩
  obtain ⟨N1, hNN1⟩ : ∃ N, Hid (L1.length = N) := ⟨_, rfl⟩
  obtain ⟨Lt, hLt⟩ : ∃ L, Hid (takeB l z1 ⟨ex, ey⟩ kn = L) := ⟨_, rfl⟩
  obtain ⟨Nt, hNNt⟩ : ∃ N, Hid (Lt.length = N) := ⟨_, rfl⟩
  obtain ⟨L2, hL2⟩ : ∃ L, Hid (putB Lt ⟨z0, ⟨dx, dy⟩⟩ = L) := ⟨_, rfl⟩
  obtain ⟨N2, hNN2⟩ : ∃ N, Hid (L2.length = N) := ⟨_, rfl⟩
  have bp : Np ≤ 61 := by
    have := putB_len l ⟨z0, ⟨dx, dy⟩⟩
    rw [hLp.out, hNNp.out, HLN.out] at this; omega
  have bt : Nt ≤ 60 := by
    have := List.length_filter_le (leavesB z1 ⟨ex, ey⟩ kn) l
    rw [show l.filter (leavesB z1 ⟨ex, ey⟩ kn) = Lt from hLt.out, hNNt.out, HLN.out] at this; omega
  have b1 : N1 ≤ 61 := by
    have := List.length_filter_le (leavesB z1 ⟨ex, ey⟩ kn) Lp
    rw [show Lp.filter (leavesB z1 ⟨ex, ey⟩ kn) = L1 from hL1.out, hNN1.out, hNNp.out] at this; omega
  have P1 : Hid (∀ W : World, RdP W A n c l → Calls Try.prog 22 #[cellV k u (.slice A n c), .int .i64 z0, .agg #[.int .i64 dx, .int .i64 dy]] W fun e w' => ∃ A' c', e = .returned (cellV k u (.slice A' Np c')) ∧ RdP w' A' Np c' Lp ∧ Below W.heap.size W w') := by
    intro W hW
    have := putB_any k u A n c l z0 ⟨dx, dy⟩ W hW (by omega)
    rw [hLp.out, hNNp.out] at this
    exact this
  have T1 : Hid (∀ (A1 : Option Addr) (d1 : Nat) (W : World), RdP W A1 Np d1 Lp → Rd W B m d (vals .i64 kn) → Calls Try.prog 24 #[cellV k u (.slice A1 Np d1), .int .i64 z1, .agg #[.int .i64 ex, .int .i64 ey], .slice B m d] W fun e w' => ∃ A' c', e = .returned (cellV k u (.slice A' N1 c')) ∧ RdP w' A' N1 c' L1 ∧ Below W.heap.size W w') := by
    intro A1 d1 W hW hK
    have := takeB_any k u A1 Np d1 Lp z1 ⟨ex, ey⟩ B m d kn W hW (by omega) hK
    rw [hL1.out, hNN1.out] at this
    exact this
  have T2 : Hid (∀ W : World, RdP W A n c l → Rd W B m d (vals .i64 kn) → Calls Try.prog 24 #[cellV k u (.slice A n c), .int .i64 z1, .agg #[.int .i64 ex, .int .i64 ey], .slice B m d] W fun e w' => ∃ A' c', e = .returned (cellV k u (.slice A' Nt c')) ∧ RdP w' A' Nt c' Lt ∧ Below W.heap.size W w') := by
    intro W hW hK
    have := takeB_any k u A n c l z1 ⟨ex, ey⟩ B m d kn W hW (by omega) hK
    rw [hLt.out, hNNt.out] at this
    exact this
  have P2 : Hid (∀ (A1 : Option Addr) (d1 : Nat) (W : World), RdP W A1 Nt d1 Lt → Calls Try.prog 22 #[cellV k u (.slice A1 Nt d1), .int .i64 z0, .agg #[.int .i64 dx, .int .i64 dy]] W fun e w' => ∃ A' c', e = .returned (cellV k u (.slice A' N2 c')) ∧ RdP w' A' N2 c' L2 ∧ Below W.heap.size W w') := by
    intro A1 d1 W hW
    have := putB_any k u A1 Nt d1 Lt z0 ⟨dx, dy⟩ W hW (by omega)
    rw [hL2.out, hNN2.out] at this
    exact this
  have HW : Hid (¬ (z0 = z1 ∧ knowsV kn ⟨dx, dy⟩ = true) → L1 = L2 ∧ hasB L1 z0 = true) := by
    intro hk
    have hri := (rightS_iff.1 hr.out).2.2
    have h1 := wins hri hde hk
    have h2 := wins_has hri hde hk
    rw [hLp.out, hL1.out] at h1 h2
    rw [hLt.out, hL2.out] at h1
    exact ⟨h1, h2⟩
  have HX2 : Hid (z0 = z1 → knowsV kn ⟨dx, dy⟩ = true → dotIn (L1.filter fun p => decide (p.v.n = z0)) ⟨dx, dy⟩ = false) := by
    intro e hk
    subst e
    have := wins_not l (n := z0) (e := ⟨ex, ey⟩) hk
    rw [hLp.out, hL1.out] at this
    exact this
  have BNS := Lib.hid (And.intro b1 (And.intro bp bt))
  have HN1 : Hid (L1 = L2 → N1 = N2) := by intro e; rw [← hNN1.out, ← hNN2.out, e]
  clear hde hLp hL1 hLt hL2 hNNp hNNt hNN1 hNN2 hr hq hn6 bp bt b1 hn hm
  obtain ⟨g, hg⟩ : ∃ g, g = w.heap.size := ⟨_, rfl⟩
  obtain ⟨w0, hw0⟩ : ∃ w1, w1 = (((w.alloc (cellRow k u (.slice A n c))).alloc (.cells #[.int .i64 z0, .int .i64 z1] 44)).alloc (.cells #[.int .i64 dx, .int .i64 dy, .int .i64 ex, .int .i64 ey] 50)) := ⟨_, rfl⟩
  have HW0 := Lib.hid hw0; have HG := Lib.hid hg
  have hat : ∀ (w : World) (o : Obj) (g : Nat), w.heap.size = g → (w.alloc o).heap[g]? = some o := fun w o g h => by subst h; exact heap_alloc_new _ _
  have bb : Below w.heap.size w w0 := by rw [hw0]; exact below_new (below_new (below_new (Below.refl _ _) _) _) _
  have RX : Hid (w0.heap[g]? = some (cellRow k u (.slice A n c))) := by
    show _ = _
    rw [hw0, hg]
    rw [Below.heap_alloc _ _ _ (by simp only [World.size_alloc]; omega), Below.heap_alloc _ _ _ (by simp only [World.size_alloc]; omega)]
    exact hat _ _ _ rfl
  have RZ : Hid (w0.heap[g + 1]? = some (.cells #[.int .i64 z0, .int .i64 z1] 44)) := by
    show _ = _
    rw [hw0, hg]
    rw [Below.heap_alloc _ _ _ (by simp only [World.size_alloc]; omega)]
    exact hat _ _ _ (by simp only [World.size_alloc])
  have RQ : Hid (w0.heap[g + 2]? = some (.cells #[.int .i64 dx, .int .i64 dy, .int .i64 ex, .int .i64 ey] 50)) := by
    show _ = _
    rw [hw0, hg]
    skip
    exact hat _ _ _ (by simp only [World.size_alloc])
  replace RD := Lib.hid (RD.out.below bb)
  replace RK := Lib.hid (RK.out.below bb)
  replace HB := Lib.hid (below_then HB.out bb)
  clear bb hg hw0 hat
  go_enter Try.func7, Try.ntmps7
  go_upto_region 1 with fail
  rw [← HG.out]
  rw [show (((w.alloc (Obj.cells #[Value.int .i64 k, .int .i64 u.k, .int .i64 u.n, .string u.s, .slice A n c] 26)).alloc (Obj.cells #[Value.int .i64 z0, .int .i64 z1] 44)).alloc (Obj.cells #[Value.int .i64 dx, .int .i64 dy, .int .i64 ex, .int .i64 ey] 50)) = w0 from HW0.out.symm]
  clear HW0
  obtain ⟨RX0, RX1, RX2, RX3, RX4⟩ := cell_row5 RX.out
  go_wp2_with fail
  refine (FW.out _).mono ?_
  rintro e v1 ⟨rfl, bb⟩
  replace RX := Lib.hid (row_below RX.out bb)
  replace RZ := Lib.hid (row_below RZ.out bb)
  replace RQ := Lib.hid (row_below RQ.out bb)
  replace RD := Lib.hid (RD.out.below bb)
  replace RK := Lib.hid (RK.out.below bb)
  replace HB := Lib.hid (below_then HB.out bb)
  clear bb
  clear RX0 RX1 RX2 RX3 RX4
  obtain ⟨RX0, RX1, RX2, RX3, RX4⟩ := cell_row5 RX.out
  go_wp2_with fail
  refine (CR.out _ RD.out).mono ?_
  rintro e v2 ⟨rfl, bb⟩
  replace RX := Lib.hid (row_below RX.out bb)
  replace RZ := Lib.hid (row_below RZ.out bb)
  replace RQ := Lib.hid (row_below RQ.out bb)
  replace RD := Lib.hid (RD.out.below bb)
  replace RK := Lib.hid (RK.out.below bb)
  replace HB := Lib.hid (below_then HB.out bb)
  clear bb
  clear RX0 RX1 RX2 RX3 RX4
  have RQ0 := cell_row RQ.out 0
  have RQ1 := cell_row RQ.out 1
  have RQ2 := cell_row RQ.out 2
  have RQ3 := cell_row RQ.out 3
  simp only [List.getElem?_toArray, List.getElem?_cons_zero, List.getElem?_cons_succ] at RQ0 RQ1 RQ2 RQ3
  go_upto_region 3 with fail
  clear FW CR EQ RQ0 RQ1 RQ2 RQ3
  go_upto_region 3 with fail
  go_cut [9] from 26 to 40 (fun s wz => ∃ gd A' d', s = .pointer (some ⟨gd, 0, none⟩) ∧ Hid (wz.heap[gd]? = some (cellRow k u (.slice A' N1 d'))) ∧ Hid (RdP wz A' N1 d' L1) ∧ Hid (Below v2.heap.size v2 wz))
  case first =>
    obtain ⟨RX0, RX1, RX2, RX3, RX4⟩ := cell_row5 RX.out
    have RZ0 := cell_row RZ.out 0
    have RZ1 := cell_row RZ.out 1
    simp only [List.getElem?_toArray, List.getElem?_cons_zero, List.getElem?_cons_succ] at RZ0 RZ1
    have RQ0 := cell_row RQ.out 0
    have RQ1 := cell_row RQ.out 1
    have RQ2 := cell_row RQ.out 2
    have RQ3 := cell_row RQ.out 3
    simp only [List.getElem?_toArray, List.getElem?_cons_zero, List.getElem?_cons_succ] at RQ0 RQ1 RQ2 RQ3
    have hS0 : Below v2.heap.size v2 v2 ∧ v2.cell? ⟨g, 0, none⟩ = some (.int .i64 k) ∧ v2.cell? ⟨g, 1, none⟩ = some (.int .i64 u.k) ∧ v2.cell? ⟨g, 2, none⟩ = some (.int .i64 u.n) ∧ v2.cell? ⟨g, 3, none⟩ = some (.string u.s) ∧ v2.cell? ⟨g, 4, none⟩ = some (.slice A n c) ∧ v2.cell? ⟨g + 1, 0, none⟩ = some (.int .i64 z0) ∧ v2.cell? ⟨g + 1, 1, none⟩ = some (.int .i64 z1) ∧ v2.cell? ⟨g + 2, 0, none⟩ = some (.int .i64 dx) ∧ v2.cell? ⟨g + 2, 1, none⟩ = some (.int .i64 dy) ∧ v2.cell? ⟨g + 2, 2, none⟩ = some (.int .i64 ex) ∧ v2.cell? ⟨g + 2, 3, none⟩ = some (.int .i64 ey) := ⟨Below.refl _ _, RX0, RX1, RX2, RX3, RX4, RZ0, RZ1, RQ0, RQ1, RQ2, RQ3⟩
    have K : Hid (∀ W W' : World, (Below v2.heap.size v2 W ∧ W.cell? ⟨g, 0, none⟩ = some (.int .i64 k) ∧ W.cell? ⟨g, 1, none⟩ = some (.int .i64 u.k) ∧ W.cell? ⟨g, 2, none⟩ = some (.int .i64 u.n) ∧ W.cell? ⟨g, 3, none⟩ = some (.string u.s) ∧ W.cell? ⟨g, 4, none⟩ = some (.slice A n c) ∧ W.cell? ⟨g + 1, 0, none⟩ = some (.int .i64 z0) ∧ W.cell? ⟨g + 1, 1, none⟩ = some (.int .i64 z1) ∧ W.cell? ⟨g + 2, 0, none⟩ = some (.int .i64 dx) ∧ W.cell? ⟨g + 2, 1, none⟩ = some (.int .i64 dy) ∧ W.cell? ⟨g + 2, 2, none⟩ = some (.int .i64 ex) ∧ W.cell? ⟨g + 2, 3, none⟩ = some (.int .i64 ey)) → Below W.heap.size W W' → (Below v2.heap.size v2 W' ∧ W'.cell? ⟨g, 0, none⟩ = some (.int .i64 k) ∧ W'.cell? ⟨g, 1, none⟩ = some (.int .i64 u.k) ∧ W'.cell? ⟨g, 2, none⟩ = some (.int .i64 u.n) ∧ W'.cell? ⟨g, 3, none⟩ = some (.string u.s) ∧ W'.cell? ⟨g, 4, none⟩ = some (.slice A n c) ∧ W'.cell? ⟨g + 1, 0, none⟩ = some (.int .i64 z0) ∧ W'.cell? ⟨g + 1, 1, none⟩ = some (.int .i64 z1) ∧ W'.cell? ⟨g + 2, 0, none⟩ = some (.int .i64 dx) ∧ W'.cell? ⟨g + 2, 1, none⟩ = some (.int .i64 dy) ∧ W'.cell? ⟨g + 2, 2, none⟩ = some (.int .i64 ex) ∧ W'.cell? ⟨g + 2, 3, none⟩ = some (.int .i64 ey))) := by
      rintro W W' ⟨kk, k0, k1, k2, k3, k4, k5, k6, k7, k8, k9, k10⟩ hb
      have hc : ∀ (p : Addr) (y : Value), W.cell? p = some y → W'.cell? p = some y := fun p y h2 => (hb.cell (World.block_lt_of_cell? _ _ h2)).trans h2
      exact ⟨below_then kk hb, hc _ _ k0, hc _ _ k1, hc _ _ k2, hc _ _ k3, hc _ _ k4, hc _ _ k5, hc _ _ k6, hc _ _ k7, hc _ _ k8, hc _ _ k9, hc _ _ k10⟩
    have KA : Hid (∀ W, Below v2.heap.size v2 W → (Below v2.heap.size v2 W ∧ W.cell? ⟨g, 0, none⟩ = some (.int .i64 k) ∧ W.cell? ⟨g, 1, none⟩ = some (.int .i64 u.k) ∧ W.cell? ⟨g, 2, none⟩ = some (.int .i64 u.n) ∧ W.cell? ⟨g, 3, none⟩ = some (.string u.s) ∧ W.cell? ⟨g, 4, none⟩ = some (.slice A n c) ∧ W.cell? ⟨g + 1, 0, none⟩ = some (.int .i64 z0) ∧ W.cell? ⟨g + 1, 1, none⟩ = some (.int .i64 z1) ∧ W.cell? ⟨g + 2, 0, none⟩ = some (.int .i64 dx) ∧ W.cell? ⟨g + 2, 1, none⟩ = some (.int .i64 dy) ∧ W.cell? ⟨g + 2, 2, none⟩ = some (.int .i64 ex) ∧ W.cell? ⟨g + 2, 3, none⟩ = some (.int .i64 ey))) := fun W hb => K.out _ _ hS0 hb
    have K2 : Hid (∀ (W : World) (q : Nat) (s0 s1 s2 s3 s4 : Value), (Below v2.heap.size v2 W ∧ W.cell? ⟨g, 0, none⟩ = some (.int .i64 k) ∧ W.cell? ⟨g, 1, none⟩ = some (.int .i64 u.k) ∧ W.cell? ⟨g, 2, none⟩ = some (.int .i64 u.n) ∧ W.cell? ⟨g, 3, none⟩ = some (.string u.s) ∧ W.cell? ⟨g, 4, none⟩ = some (.slice A n c) ∧ W.cell? ⟨g + 1, 0, none⟩ = some (.int .i64 z0) ∧ W.cell? ⟨g + 1, 1, none⟩ = some (.int .i64 z1) ∧ W.cell? ⟨g + 2, 0, none⟩ = some (.int .i64 dx) ∧ W.cell? ⟨g + 2, 1, none⟩ = some (.int .i64 dy) ∧ W.cell? ⟨g + 2, 2, none⟩ = some (.int .i64 ex) ∧ W.cell? ⟨g + 2, 3, none⟩ = some (.int .i64 ey)) → v2.heap.size ≤ q → (Below v2.heap.size v2 (((((W.setCell ⟨q, 0, none⟩ s0).setCell ⟨q, 1, none⟩ s1).setCell ⟨q, 2, none⟩ s2).setCell ⟨q, 3, none⟩ s3).setCell ⟨q, 4, none⟩ s4) ∧ (((((W.setCell ⟨q, 0, none⟩ s0).setCell ⟨q, 1, none⟩ s1).setCell ⟨q, 2, none⟩ s2).setCell ⟨q, 3, none⟩ s3).setCell ⟨q, 4, none⟩ s4).cell? ⟨g, 0, none⟩ = some (.int .i64 k) ∧ (((((W.setCell ⟨q, 0, none⟩ s0).setCell ⟨q, 1, none⟩ s1).setCell ⟨q, 2, none⟩ s2).setCell ⟨q, 3, none⟩ s3).setCell ⟨q, 4, none⟩ s4).cell? ⟨g, 1, none⟩ = some (.int .i64 u.k) ∧ (((((W.setCell ⟨q, 0, none⟩ s0).setCell ⟨q, 1, none⟩ s1).setCell ⟨q, 2, none⟩ s2).setCell ⟨q, 3, none⟩ s3).setCell ⟨q, 4, none⟩ s4).cell? ⟨g, 2, none⟩ = some (.int .i64 u.n) ∧ (((((W.setCell ⟨q, 0, none⟩ s0).setCell ⟨q, 1, none⟩ s1).setCell ⟨q, 2, none⟩ s2).setCell ⟨q, 3, none⟩ s3).setCell ⟨q, 4, none⟩ s4).cell? ⟨g, 3, none⟩ = some (.string u.s) ∧ (((((W.setCell ⟨q, 0, none⟩ s0).setCell ⟨q, 1, none⟩ s1).setCell ⟨q, 2, none⟩ s2).setCell ⟨q, 3, none⟩ s3).setCell ⟨q, 4, none⟩ s4).cell? ⟨g, 4, none⟩ = some (.slice A n c) ∧ (((((W.setCell ⟨q, 0, none⟩ s0).setCell ⟨q, 1, none⟩ s1).setCell ⟨q, 2, none⟩ s2).setCell ⟨q, 3, none⟩ s3).setCell ⟨q, 4, none⟩ s4).cell? ⟨g + 1, 0, none⟩ = some (.int .i64 z0) ∧ (((((W.setCell ⟨q, 0, none⟩ s0).setCell ⟨q, 1, none⟩ s1).setCell ⟨q, 2, none⟩ s2).setCell ⟨q, 3, none⟩ s3).setCell ⟨q, 4, none⟩ s4).cell? ⟨g + 1, 1, none⟩ = some (.int .i64 z1) ∧ (((((W.setCell ⟨q, 0, none⟩ s0).setCell ⟨q, 1, none⟩ s1).setCell ⟨q, 2, none⟩ s2).setCell ⟨q, 3, none⟩ s3).setCell ⟨q, 4, none⟩ s4).cell? ⟨g + 2, 0, none⟩ = some (.int .i64 dx) ∧ (((((W.setCell ⟨q, 0, none⟩ s0).setCell ⟨q, 1, none⟩ s1).setCell ⟨q, 2, none⟩ s2).setCell ⟨q, 3, none⟩ s3).setCell ⟨q, 4, none⟩ s4).cell? ⟨g + 2, 1, none⟩ = some (.int .i64 dy) ∧ (((((W.setCell ⟨q, 0, none⟩ s0).setCell ⟨q, 1, none⟩ s1).setCell ⟨q, 2, none⟩ s2).setCell ⟨q, 3, none⟩ s3).setCell ⟨q, 4, none⟩ s4).cell? ⟨g + 2, 2, none⟩ = some (.int .i64 ex) ∧ (((((W.setCell ⟨q, 0, none⟩ s0).setCell ⟨q, 1, none⟩ s1).setCell ⟨q, 2, none⟩ s2).setCell ⟨q, 3, none⟩ s3).setCell ⟨q, 4, none⟩ s4).cell? ⟨g + 2, 3, none⟩ = some (.int .i64 ey))) := by
      rintro W q s0 s1 s2 s3 s4 hs hq
      exact KA.out _ (below_set5 hs.1 hq)
    clear RX0 RX1 RX2 RX3 RX4 RZ0 RZ1 RQ0 RQ1 RQ2 RQ3
    go_region_held3 (fun W => Below v2.heap.size v2 W ∧ W.cell? ⟨g, 0, none⟩ = some (.int .i64 k) ∧ W.cell? ⟨g, 1, none⟩ = some (.int .i64 u.k) ∧ W.cell? ⟨g, 2, none⟩ = some (.int .i64 u.n) ∧ W.cell? ⟨g, 3, none⟩ = some (.string u.s) ∧ W.cell? ⟨g, 4, none⟩ = some (.slice A n c) ∧ W.cell? ⟨g + 1, 0, none⟩ = some (.int .i64 z0) ∧ W.cell? ⟨g + 1, 1, none⟩ = some (.int .i64 z1) ∧ W.cell? ⟨g + 2, 0, none⟩ = some (.int .i64 dx) ∧ W.cell? ⟨g + 2, 1, none⟩ = some (.int .i64 dy) ∧ W.cell? ⟨g + 2, 2, none⟩ = some (.int .i64 ex) ∧ W.cell? ⟨g + 2, 3, none⟩ = some (.int .i64 ey))
      (first
        | with_reducible exact K.out _ _ hS0 ((Below.refl _ _).drew)
        | with_reducible exact KA.out _ (below_new HB9.out _)
        | with_reducible exact KA.out _ (below_set5 HB9.out (by first | exact Nat.le_refl _ | exact bx.size))
        | with_reducible exact KA.out _ HB9.out
        | with_reducible exact KA.out _ (below_new bx _)
        | with_reducible exact KA.out _ bx
        | with_reducible exact KA.out _ (below_new (Below.refl _ _) _)
        | with_reducible exact KA.out _ (below_new (Below.refl _ _) _).drew
        | with_reducible exact KA.out _ (below_new (Below.refl _ _).drew _)
        | with_reducible assumption
        | fail "S?")
      (first
        | (go_at_call 22; refine (P1.out _ (RD.out.below (by first | exact Below.refl _ _ | exact (Below.refl _ _).drew | (go_split_ands; assumption)))).mono ?_; rintro e wx ⟨Ai, di, rfl, hri, bb⟩; have bx : Below v2.heap.size v2 wx := below_then (by first | exact Below.refl _ _ | exact (Below.refl _ _).drew | (go_split_ands; assumption)) bb; (try (have hz9 := row_below (o := (cellRow 0 ⟨0, 0, ⟨#[]⟩⟩ (.slice none 0 0))) (by first | exact heap_alloc_new _ _ | exact nested_row9 _ _ _) bb; (try simp only [World.size_alloc, World.size_drew] at hz9); have HZ := Lib.hid hz9; clear hz9)); have HRI := Lib.hid hri; clear hri)
        | (go_at_call 24; refine (T1.out _ _ _ (by first | exact HRI.out | exact HRI.out.alloc _) (RK.out.below (by first | exact bx | exact below_new bx _))).mono ?_; rintro e wy ⟨A9, d9, rfl, hrd, bb⟩; have by2 : Below wx.heap.size wx wy := (by first | exact bb | exact below_then (below_new (Below.refl _ _) _) bb); (first | (have HZ9 := Lib.hid (row_below HZ.out by2)) | (have hz9 := row_below (o := (cellRow 0 ⟨0, 0, ⟨#[]⟩⟩ (.slice none 0 0))) (by first | exact heap_alloc_new _ _ | exact nested_row9 _ _ _) bb; (try simp only [World.size_alloc, World.size_drew] at hz9); have HZ9 := Lib.hid hz9; clear hz9) | skip); (try (obtain ⟨q0, q1, q2, q3, q4⟩ := cell_row5 HZ9.out; have f0 := frozen_row HZ9.out; dsimp only at q0 q1 q2 q3 q4)); have HRD := Lib.hid hrd; have HB9 := Lib.hid (below_then bx by2); clear hrd))
    all_goals
      first
        | (fail_if_success (have hq9 := HZ9)
           have T1 := Lib.hid (heap_alloc_new wy (cellRow k u (.slice A9 N1 d9)))
           have T2 := Lib.hid (HRD.out.alloc (cellRow k u (.slice A9 N1 d9)))
           have T3 := Lib.hid (below_new HB9.out (cellRow k u (.slice A9 N1 d9)))
           refine at_world 9 9 rfl rfl (fun gd _ Z => Hid (Z.heap[gd]? = some (cellRow k u (.slice A9 N1 d9))) ∧ Hid (RdP Z A9 N1 d9 L1) ∧ Hid (Below v2.heap.size v2 Z)) ⟨T1, T2, T3⟩ ?_
           rintro Z ⟨y1, y2, y3⟩
           go_wp2_with fail
           go_meet
           exact ⟨_, _, _, rfl, y1, y2, y3⟩)
        | (have T1 := Lib.hid (set5 (x := .int .i64 k) (y := .int .i64 u.k) (z := .int .i64 u.n) (u := .string u.s) (v := .slice A9 N1 d9) HZ9.out)
           have T2 := Lib.hid (rdp_set5 HRD.out HZ9.out (.int .i64 k) (.int .i64 u.k) (.int .i64 u.n) (.string u.s) (.slice A9 N1 d9))
           have z2 := bx.size
           have T3 := Lib.hid (below_set5h (x := .int .i64 k) (y := .int .i64 u.k) (z := .int .i64 u.n) (a := .string u.s) (b := .slice A9 N1 d9) HZ9.out HB9.out (by first | exact Nat.le_refl _ | exact bx.size | omega))
           clear q0 q1 q2 q3 q4 f0
           refine at_world 9 9 rfl rfl (fun gd _ Z => Hid (Z.heap[gd]? = some (cellRow k u (.slice A9 N1 d9))) ∧ Hid (RdP Z A9 N1 d9 L1) ∧ Hid (Below v2.heap.size v2 Z)) ⟨T1, T2, T3⟩ ?_
           rintro Z ⟨y1, y2, y3⟩
           go_wp2_with fail
           go_meet
           exact ⟨_, _, _, rfl, y1, y2, y3⟩)
  case rest =>
  obtain ⟨gR1, A1, d1, rfl, hR, hRd, hbb⟩ := hcut
  have R1 := hR; have RL1 := hRd; have bb := hbb.out
  clear hR hRd hbb
  replace RX := Lib.hid (row_below RX.out bb)
  replace RZ := Lib.hid (row_below RZ.out bb)
  replace RQ := Lib.hid (row_below RQ.out bb)
  replace RD := Lib.hid (RD.out.below bb)
  replace RK := Lib.hid (RK.out.below bb)
  replace HB := Lib.hid (below_then HB.out bb)
  clear bb
  generalize wc = v3 at RX RZ RQ RD RK R1 RL1 HB ⊢
  go_upto_region 4 with fail
  go_cut [10] from 40 to 54 (fun s wz => ∃ gd A' d', s = .pointer (some ⟨gd, 0, none⟩) ∧ Hid (wz.heap[gd]? = some (cellRow k u (.slice A' N2 d'))) ∧ Hid (RdP wz A' N2 d' L2) ∧ Hid (Below v3.heap.size v3 wz))
  case first =>
    obtain ⟨RX0, RX1, RX2, RX3, RX4⟩ := cell_row5 RX.out
    have RZ0 := cell_row RZ.out 0
    have RZ1 := cell_row RZ.out 1
    simp only [List.getElem?_toArray, List.getElem?_cons_zero, List.getElem?_cons_succ] at RZ0 RZ1
    have RQ0 := cell_row RQ.out 0
    have RQ1 := cell_row RQ.out 1
    have RQ2 := cell_row RQ.out 2
    have RQ3 := cell_row RQ.out 3
    simp only [List.getElem?_toArray, List.getElem?_cons_zero, List.getElem?_cons_succ] at RQ0 RQ1 RQ2 RQ3
    have hS0 : Below v3.heap.size v3 v3 ∧ v3.cell? ⟨g, 0, none⟩ = some (.int .i64 k) ∧ v3.cell? ⟨g, 1, none⟩ = some (.int .i64 u.k) ∧ v3.cell? ⟨g, 2, none⟩ = some (.int .i64 u.n) ∧ v3.cell? ⟨g, 3, none⟩ = some (.string u.s) ∧ v3.cell? ⟨g, 4, none⟩ = some (.slice A n c) ∧ v3.cell? ⟨g + 1, 0, none⟩ = some (.int .i64 z0) ∧ v3.cell? ⟨g + 1, 1, none⟩ = some (.int .i64 z1) ∧ v3.cell? ⟨g + 2, 0, none⟩ = some (.int .i64 dx) ∧ v3.cell? ⟨g + 2, 1, none⟩ = some (.int .i64 dy) ∧ v3.cell? ⟨g + 2, 2, none⟩ = some (.int .i64 ex) ∧ v3.cell? ⟨g + 2, 3, none⟩ = some (.int .i64 ey) := ⟨Below.refl _ _, RX0, RX1, RX2, RX3, RX4, RZ0, RZ1, RQ0, RQ1, RQ2, RQ3⟩
    have K : Hid (∀ W W' : World, (Below v3.heap.size v3 W ∧ W.cell? ⟨g, 0, none⟩ = some (.int .i64 k) ∧ W.cell? ⟨g, 1, none⟩ = some (.int .i64 u.k) ∧ W.cell? ⟨g, 2, none⟩ = some (.int .i64 u.n) ∧ W.cell? ⟨g, 3, none⟩ = some (.string u.s) ∧ W.cell? ⟨g, 4, none⟩ = some (.slice A n c) ∧ W.cell? ⟨g + 1, 0, none⟩ = some (.int .i64 z0) ∧ W.cell? ⟨g + 1, 1, none⟩ = some (.int .i64 z1) ∧ W.cell? ⟨g + 2, 0, none⟩ = some (.int .i64 dx) ∧ W.cell? ⟨g + 2, 1, none⟩ = some (.int .i64 dy) ∧ W.cell? ⟨g + 2, 2, none⟩ = some (.int .i64 ex) ∧ W.cell? ⟨g + 2, 3, none⟩ = some (.int .i64 ey)) → Below W.heap.size W W' → (Below v3.heap.size v3 W' ∧ W'.cell? ⟨g, 0, none⟩ = some (.int .i64 k) ∧ W'.cell? ⟨g, 1, none⟩ = some (.int .i64 u.k) ∧ W'.cell? ⟨g, 2, none⟩ = some (.int .i64 u.n) ∧ W'.cell? ⟨g, 3, none⟩ = some (.string u.s) ∧ W'.cell? ⟨g, 4, none⟩ = some (.slice A n c) ∧ W'.cell? ⟨g + 1, 0, none⟩ = some (.int .i64 z0) ∧ W'.cell? ⟨g + 1, 1, none⟩ = some (.int .i64 z1) ∧ W'.cell? ⟨g + 2, 0, none⟩ = some (.int .i64 dx) ∧ W'.cell? ⟨g + 2, 1, none⟩ = some (.int .i64 dy) ∧ W'.cell? ⟨g + 2, 2, none⟩ = some (.int .i64 ex) ∧ W'.cell? ⟨g + 2, 3, none⟩ = some (.int .i64 ey))) := by
      rintro W W' ⟨kk, k0, k1, k2, k3, k4, k5, k6, k7, k8, k9, k10⟩ hb
      have hc : ∀ (p : Addr) (y : Value), W.cell? p = some y → W'.cell? p = some y := fun p y h2 => (hb.cell (World.block_lt_of_cell? _ _ h2)).trans h2
      exact ⟨below_then kk hb, hc _ _ k0, hc _ _ k1, hc _ _ k2, hc _ _ k3, hc _ _ k4, hc _ _ k5, hc _ _ k6, hc _ _ k7, hc _ _ k8, hc _ _ k9, hc _ _ k10⟩
    have KA : Hid (∀ W, Below v3.heap.size v3 W → (Below v3.heap.size v3 W ∧ W.cell? ⟨g, 0, none⟩ = some (.int .i64 k) ∧ W.cell? ⟨g, 1, none⟩ = some (.int .i64 u.k) ∧ W.cell? ⟨g, 2, none⟩ = some (.int .i64 u.n) ∧ W.cell? ⟨g, 3, none⟩ = some (.string u.s) ∧ W.cell? ⟨g, 4, none⟩ = some (.slice A n c) ∧ W.cell? ⟨g + 1, 0, none⟩ = some (.int .i64 z0) ∧ W.cell? ⟨g + 1, 1, none⟩ = some (.int .i64 z1) ∧ W.cell? ⟨g + 2, 0, none⟩ = some (.int .i64 dx) ∧ W.cell? ⟨g + 2, 1, none⟩ = some (.int .i64 dy) ∧ W.cell? ⟨g + 2, 2, none⟩ = some (.int .i64 ex) ∧ W.cell? ⟨g + 2, 3, none⟩ = some (.int .i64 ey))) := fun W hb => K.out _ _ hS0 hb
    have K2 : Hid (∀ (W : World) (q : Nat) (s0 s1 s2 s3 s4 : Value), (Below v3.heap.size v3 W ∧ W.cell? ⟨g, 0, none⟩ = some (.int .i64 k) ∧ W.cell? ⟨g, 1, none⟩ = some (.int .i64 u.k) ∧ W.cell? ⟨g, 2, none⟩ = some (.int .i64 u.n) ∧ W.cell? ⟨g, 3, none⟩ = some (.string u.s) ∧ W.cell? ⟨g, 4, none⟩ = some (.slice A n c) ∧ W.cell? ⟨g + 1, 0, none⟩ = some (.int .i64 z0) ∧ W.cell? ⟨g + 1, 1, none⟩ = some (.int .i64 z1) ∧ W.cell? ⟨g + 2, 0, none⟩ = some (.int .i64 dx) ∧ W.cell? ⟨g + 2, 1, none⟩ = some (.int .i64 dy) ∧ W.cell? ⟨g + 2, 2, none⟩ = some (.int .i64 ex) ∧ W.cell? ⟨g + 2, 3, none⟩ = some (.int .i64 ey)) → v3.heap.size ≤ q → (Below v3.heap.size v3 (((((W.setCell ⟨q, 0, none⟩ s0).setCell ⟨q, 1, none⟩ s1).setCell ⟨q, 2, none⟩ s2).setCell ⟨q, 3, none⟩ s3).setCell ⟨q, 4, none⟩ s4) ∧ (((((W.setCell ⟨q, 0, none⟩ s0).setCell ⟨q, 1, none⟩ s1).setCell ⟨q, 2, none⟩ s2).setCell ⟨q, 3, none⟩ s3).setCell ⟨q, 4, none⟩ s4).cell? ⟨g, 0, none⟩ = some (.int .i64 k) ∧ (((((W.setCell ⟨q, 0, none⟩ s0).setCell ⟨q, 1, none⟩ s1).setCell ⟨q, 2, none⟩ s2).setCell ⟨q, 3, none⟩ s3).setCell ⟨q, 4, none⟩ s4).cell? ⟨g, 1, none⟩ = some (.int .i64 u.k) ∧ (((((W.setCell ⟨q, 0, none⟩ s0).setCell ⟨q, 1, none⟩ s1).setCell ⟨q, 2, none⟩ s2).setCell ⟨q, 3, none⟩ s3).setCell ⟨q, 4, none⟩ s4).cell? ⟨g, 2, none⟩ = some (.int .i64 u.n) ∧ (((((W.setCell ⟨q, 0, none⟩ s0).setCell ⟨q, 1, none⟩ s1).setCell ⟨q, 2, none⟩ s2).setCell ⟨q, 3, none⟩ s3).setCell ⟨q, 4, none⟩ s4).cell? ⟨g, 3, none⟩ = some (.string u.s) ∧ (((((W.setCell ⟨q, 0, none⟩ s0).setCell ⟨q, 1, none⟩ s1).setCell ⟨q, 2, none⟩ s2).setCell ⟨q, 3, none⟩ s3).setCell ⟨q, 4, none⟩ s4).cell? ⟨g, 4, none⟩ = some (.slice A n c) ∧ (((((W.setCell ⟨q, 0, none⟩ s0).setCell ⟨q, 1, none⟩ s1).setCell ⟨q, 2, none⟩ s2).setCell ⟨q, 3, none⟩ s3).setCell ⟨q, 4, none⟩ s4).cell? ⟨g + 1, 0, none⟩ = some (.int .i64 z0) ∧ (((((W.setCell ⟨q, 0, none⟩ s0).setCell ⟨q, 1, none⟩ s1).setCell ⟨q, 2, none⟩ s2).setCell ⟨q, 3, none⟩ s3).setCell ⟨q, 4, none⟩ s4).cell? ⟨g + 1, 1, none⟩ = some (.int .i64 z1) ∧ (((((W.setCell ⟨q, 0, none⟩ s0).setCell ⟨q, 1, none⟩ s1).setCell ⟨q, 2, none⟩ s2).setCell ⟨q, 3, none⟩ s3).setCell ⟨q, 4, none⟩ s4).cell? ⟨g + 2, 0, none⟩ = some (.int .i64 dx) ∧ (((((W.setCell ⟨q, 0, none⟩ s0).setCell ⟨q, 1, none⟩ s1).setCell ⟨q, 2, none⟩ s2).setCell ⟨q, 3, none⟩ s3).setCell ⟨q, 4, none⟩ s4).cell? ⟨g + 2, 1, none⟩ = some (.int .i64 dy) ∧ (((((W.setCell ⟨q, 0, none⟩ s0).setCell ⟨q, 1, none⟩ s1).setCell ⟨q, 2, none⟩ s2).setCell ⟨q, 3, none⟩ s3).setCell ⟨q, 4, none⟩ s4).cell? ⟨g + 2, 2, none⟩ = some (.int .i64 ex) ∧ (((((W.setCell ⟨q, 0, none⟩ s0).setCell ⟨q, 1, none⟩ s1).setCell ⟨q, 2, none⟩ s2).setCell ⟨q, 3, none⟩ s3).setCell ⟨q, 4, none⟩ s4).cell? ⟨g + 2, 3, none⟩ = some (.int .i64 ey))) := by
      rintro W q s0 s1 s2 s3 s4 hs hq
      exact KA.out _ (below_set5 hs.1 hq)
    clear RX0 RX1 RX2 RX3 RX4 RZ0 RZ1 RQ0 RQ1 RQ2 RQ3
    go_region_held3 (fun W => Below v3.heap.size v3 W ∧ W.cell? ⟨g, 0, none⟩ = some (.int .i64 k) ∧ W.cell? ⟨g, 1, none⟩ = some (.int .i64 u.k) ∧ W.cell? ⟨g, 2, none⟩ = some (.int .i64 u.n) ∧ W.cell? ⟨g, 3, none⟩ = some (.string u.s) ∧ W.cell? ⟨g, 4, none⟩ = some (.slice A n c) ∧ W.cell? ⟨g + 1, 0, none⟩ = some (.int .i64 z0) ∧ W.cell? ⟨g + 1, 1, none⟩ = some (.int .i64 z1) ∧ W.cell? ⟨g + 2, 0, none⟩ = some (.int .i64 dx) ∧ W.cell? ⟨g + 2, 1, none⟩ = some (.int .i64 dy) ∧ W.cell? ⟨g + 2, 2, none⟩ = some (.int .i64 ex) ∧ W.cell? ⟨g + 2, 3, none⟩ = some (.int .i64 ey))
      (first
        | with_reducible exact K.out _ _ hS0 ((Below.refl _ _).drew)
        | with_reducible exact KA.out _ (below_new HB9.out _)
        | with_reducible exact KA.out _ (below_set5 HB9.out (by first | exact Nat.le_refl _ | exact bx.size))
        | with_reducible exact KA.out _ HB9.out
        | with_reducible exact KA.out _ (below_new bx _)
        | with_reducible exact KA.out _ bx
        | with_reducible exact KA.out _ (below_new (Below.refl _ _) _)
        | with_reducible exact KA.out _ (below_new (Below.refl _ _) _).drew
        | with_reducible exact KA.out _ (below_new (Below.refl _ _).drew _)
        | with_reducible assumption
        | fail "S?")
      (first
        | (go_at_call 24; refine (T2.out _ (RD.out.below (by first | exact Below.refl _ _ | exact (Below.refl _ _).drew | (go_split_ands; assumption))) (RK.out.below (by first | exact Below.refl _ _ | exact (Below.refl _ _).drew | (go_split_ands; assumption)))).mono ?_; rintro e wx ⟨Ai, di, rfl, hri, bb⟩; have bx : Below v3.heap.size v3 wx := below_then (by first | exact Below.refl _ _ | exact (Below.refl _ _).drew | (go_split_ands; assumption)) bb; (try (have hz9 := row_below (o := (cellRow 0 ⟨0, 0, ⟨#[]⟩⟩ (.slice none 0 0))) (by first | exact heap_alloc_new _ _ | exact nested_row9 _ _ _) bb; (try simp only [World.size_alloc, World.size_drew] at hz9); have HZ := Lib.hid hz9; clear hz9)); have HRI := Lib.hid hri; clear hri)
        | (go_at_call 22; refine (P2.out _ _ _ (by first | exact HRI.out | exact HRI.out.alloc _)).mono ?_; rintro e wy ⟨A9, d9, rfl, hrd, bb⟩; have by2 : Below wx.heap.size wx wy := (by first | exact bb | exact below_then (below_new (Below.refl _ _) _) bb); (first | (have HZ9 := Lib.hid (row_below HZ.out by2)) | (have hz9 := row_below (o := (cellRow 0 ⟨0, 0, ⟨#[]⟩⟩ (.slice none 0 0))) (by first | exact heap_alloc_new _ _ | exact nested_row9 _ _ _) bb; (try simp only [World.size_alloc, World.size_drew] at hz9); have HZ9 := Lib.hid hz9; clear hz9) | skip); (try (obtain ⟨q0, q1, q2, q3, q4⟩ := cell_row5 HZ9.out; have f0 := frozen_row HZ9.out; dsimp only at q0 q1 q2 q3 q4)); have HRD := Lib.hid hrd; have HB9 := Lib.hid (below_then bx by2); clear hrd))
    all_goals
      first
        | (fail_if_success (have hq9 := HZ9)
           have T1 := Lib.hid (heap_alloc_new wy (cellRow k u (.slice A9 N2 d9)))
           have T2 := Lib.hid (HRD.out.alloc (cellRow k u (.slice A9 N2 d9)))
           have T3 := Lib.hid (below_new HB9.out (cellRow k u (.slice A9 N2 d9)))
           refine at_world 10 10 rfl rfl (fun gd _ Z => Hid (Z.heap[gd]? = some (cellRow k u (.slice A9 N2 d9))) ∧ Hid (RdP Z A9 N2 d9 L2) ∧ Hid (Below v3.heap.size v3 Z)) ⟨T1, T2, T3⟩ ?_
           rintro Z ⟨y1, y2, y3⟩
           go_wp2_with fail
           go_meet
           exact ⟨_, _, _, rfl, y1, y2, y3⟩)
        | (have T1 := Lib.hid (set5 (x := .int .i64 k) (y := .int .i64 u.k) (z := .int .i64 u.n) (u := .string u.s) (v := .slice A9 N2 d9) HZ9.out)
           have T2 := Lib.hid (rdp_set5 HRD.out HZ9.out (.int .i64 k) (.int .i64 u.k) (.int .i64 u.n) (.string u.s) (.slice A9 N2 d9))
           have z2 := bx.size
           have T3 := Lib.hid (below_set5h (x := .int .i64 k) (y := .int .i64 u.k) (z := .int .i64 u.n) (a := .string u.s) (b := .slice A9 N2 d9) HZ9.out HB9.out (by first | exact Nat.le_refl _ | exact bx.size | omega))
           clear q0 q1 q2 q3 q4 f0
           refine at_world 10 10 rfl rfl (fun gd _ Z => Hid (Z.heap[gd]? = some (cellRow k u (.slice A9 N2 d9))) ∧ Hid (RdP Z A9 N2 d9 L2) ∧ Hid (Below v3.heap.size v3 Z)) ⟨T1, T2, T3⟩ ?_
           rintro Z ⟨y1, y2, y3⟩
           go_wp2_with fail
           go_meet
           exact ⟨_, _, _, rfl, y1, y2, y3⟩)
  case rest =>
  obtain ⟨gR2, A2, d2, rfl, hR, hRd, hbb⟩ := hcut
  have R2 := hR; have RL2 := hRd; have bb := hbb.out
  clear hR hRd hbb
  replace RX := Lib.hid (row_below RX.out bb)
  replace RZ := Lib.hid (row_below RZ.out bb)
  replace RQ := Lib.hid (row_below RQ.out bb)
  replace R1 := Lib.hid (row_below R1.out bb)
  replace RD := Lib.hid (RD.out.below bb)
  replace RK := Lib.hid (RK.out.below bb)
  replace RL1 := Lib.hid (RL1.out.below bb)
  replace HB := Lib.hid (below_then HB.out bb)
  clear bb
  generalize wc = v4 at RX RZ RQ R1 RD RK RL1 R2 RL2 HB ⊢
  clear P1 T1 T2 P2
  obtain ⟨r, hr⟩ : ∃ r, Hid (hasV kn dx dy = r) := ⟨_, rfl⟩
  have CH : Hid (∀ W : World, Rd W B m d (vals .i64 kn) → Calls Try.prog 15 #[.slice B m d, .agg #[.int .i64 dx, .int .i64 dy]] W fun e w' => e = .returned (.bool r) ∧ Below W.heap.size W w') := by
    intro W hW; rw [← hr.out]; exact refHas_any B m d kn dx dy W hW
  by_cases hz : z0 = z1
  rotate_left
  · obtain ⟨he, hh⟩ := HW.out (fun e => hz e.1)
    obtain rfl := HN1.out he
    subst he
    have H1 : Hid (∀ W : World, RdP W A1 N1 d1 L1 → Calls Try.prog 23 #[cellV k u (.slice A1 N1 d1), .int .i64 z0] W fun e w' => e = .returned (.bool true) ∧ Below W.heap.size W w') := by
      intro W hW
      have := hasB_any k u A1 N1 d1 L1 z0 W hW
      rw [hh] at this
      exact this
    clear HW HX2 HN1 hr hh BNS
    have RZ0 := cell_row RZ.out 0
    have RZ1 := cell_row RZ.out 1
    simp only [List.getElem?_toArray, List.getElem?_cons_zero, List.getElem?_cons_succ] at RZ0 RZ1
    have hz1 : (z0 == z1) = false := by simp [hz]
    have hz2 : decide (z0 = z1) = false := decide_eq_false hz
    clear hz CH
    go_upto_region 7 with fail
    clear RZ0 RZ1
    go_wp2_with fail
    refine (alive9_any _).mono ?_
    rintro e v61 ⟨rfl, bb⟩
    replace RX := Lib.hid (row_below RX.out bb)
    replace RZ := Lib.hid (row_below RZ.out bb)
    replace RQ := Lib.hid (row_below RQ.out bb)
    replace R1 := Lib.hid (row_below R1.out bb)
    replace R2 := Lib.hid (row_below R2.out bb)
    replace RD := Lib.hid (RD.out.below bb)
    replace RK := Lib.hid (RK.out.below bb)
    replace RL1 := Lib.hid (RL1.out.below bb)
    replace RL2 := Lib.hid (RL2.out.below bb)
    replace HB := Lib.hid (below_then HB.out bb)
    clear bb
    obtain ⟨R10, R11, R12, R13, R14⟩ := cell_row5 R1.out
    obtain ⟨R20, R21, R22, R23, R24⟩ := cell_row5 R2.out
    go_wp2_with fail
    refine (same7_is k u A1 A2 N1 d1 d2 L1 _ RL1.out RL2.out).mono ?_
    rintro e v62 ⟨rfl, bb⟩
    replace RX := Lib.hid (row_below RX.out bb)
    replace RZ := Lib.hid (row_below RZ.out bb)
    replace RQ := Lib.hid (row_below RQ.out bb)
    replace R1 := Lib.hid (row_below R1.out bb)
    replace R2 := Lib.hid (row_below R2.out bb)
    replace RD := Lib.hid (RD.out.below bb)
    replace RK := Lib.hid (RK.out.below bb)
    replace RL1 := Lib.hid (RL1.out.below bb)
    replace RL2 := Lib.hid (RL2.out.below bb)
    replace HB := Lib.hid (below_then HB.out bb)
    clear bb
    clear R10 R11 R12 R13 R14 R20 R21 R22 R23 R24
    obtain ⟨R10, R11, R12, R13, R14⟩ := cell_row5 R1.out
    have RZ0 := cell_row RZ.out 0
    have RZ1 := cell_row RZ.out 1
    simp only [List.getElem?_toArray, List.getElem?_cons_zero, List.getElem?_cons_succ] at RZ0 RZ1
    go_wp2_with fail
    refine (H1.out _ RL1.out).mono ?_
    rintro e v63 ⟨rfl, bb⟩
    replace RX := Lib.hid (row_below RX.out bb)
    replace RZ := Lib.hid (row_below RZ.out bb)
    replace RQ := Lib.hid (row_below RQ.out bb)
    replace R1 := Lib.hid (row_below R1.out bb)
    replace R2 := Lib.hid (row_below R2.out bb)
    replace RD := Lib.hid (RD.out.below bb)
    replace RK := Lib.hid (RK.out.below bb)
    replace RL1 := Lib.hid (RL1.out.below bb)
    replace RL2 := Lib.hid (RL2.out.below bb)
    replace HB := Lib.hid (below_then HB.out bb)
    clear bb
    clear R10 R11 R12 R13 R14 RZ0 RZ1
    go_wp2_with fail
    go_ret
    exact ⟨rfl, HB.out⟩
  subst hz
  have hz1 : (z0 == z0) = true := by simp
  cases r with
  | true =>
    have hd := HX2.out rfl hr.out
    have RZ0 := cell_row RZ.out 0
    have RZ1 := cell_row RZ.out 1
    simp only [List.getElem?_toArray, List.getElem?_cons_zero, List.getElem?_cons_succ] at RZ0 RZ1
    have RQ0 := cell_row RQ.out 0
    have RQ1 := cell_row RQ.out 1
    have RQ2 := cell_row RQ.out 2
    have RQ3 := cell_row RQ.out 3
    simp only [List.getElem?_toArray, List.getElem?_cons_zero, List.getElem?_cons_succ] at RQ0 RQ1 RQ2 RQ3
    go_wp2_with fail
    refine (CH.out _ RK.out).mono ?_
    rintro e v61 ⟨rfl, bb⟩
    replace RX := Lib.hid (row_below RX.out bb)
    replace RZ := Lib.hid (row_below RZ.out bb)
    replace RQ := Lib.hid (row_below RQ.out bb)
    replace R1 := Lib.hid (row_below R1.out bb)
    replace R2 := Lib.hid (row_below R2.out bb)
    replace RD := Lib.hid (RD.out.below bb)
    replace RK := Lib.hid (RK.out.below bb)
    replace RL1 := Lib.hid (RL1.out.below bb)
    replace RL2 := Lib.hid (RL2.out.below bb)
    replace HB := Lib.hid (below_then HB.out bb)
    clear bb
    clear RZ0 RZ1 RQ0 RQ1 RQ2 RQ3
    clear CH HW HX2 HN1 hr
    have AT : Hid (∀ W : World, RdP W A1 N1 d1 L1 → Calls Try.prog 25 #[cellV k u (.slice A1 N1 d1), .int .i64 z0] W fun e w' => ∃ A' m c', e = .returned (.slice A' m c') ∧ RdP w' A' m c' (L1.filter fun p => decide (p.v.n = z0)) ∧ Below W.heap.size W w') := by
      intro W hW
      exact at9_any k u A1 N1 d1 L1 z0 W hW (by have := BNS.out; omega)
    obtain ⟨LA, hLA⟩ : ∃ LA, (L1.filter fun p => decide (p.v.n = z0)) = LA := ⟨_, rfl⟩
    rw [hLA] at AT hd
    have HA : Hid (∀ (A3 : Option Addr) (n3 d3 : Nat) (W : World), RdP W A3 n3 d3 LA → Calls Try.prog 16 #[cellV 0 ⟨0, 0, ⟨#[]⟩⟩ (.slice A3 n3 d3), .agg #[.int .i64 dx, .int .i64 dy]] W fun e w' => e = .returned (.bool false) ∧ Below W.heap.size W w') := by
      intro A3 n3 d3 W hW
      have := refHas7_any 0 ⟨0, 0, ⟨#[]⟩⟩ A3 n3 d3 LA ⟨dx, dy⟩ W hW
      rw [hd] at this
      exact this
    clear hd hLA BNS
    have RZ0 := cell_row RZ.out 0
    have RZ1 := cell_row RZ.out 1
    simp only [List.getElem?_toArray, List.getElem?_cons_zero, List.getElem?_cons_succ] at RZ0 RZ1
    have RQ0 := cell_row RQ.out 0
    have RQ1 := cell_row RQ.out 1
    have RQ2 := cell_row RQ.out 2
    have RQ3 := cell_row RQ.out 3
    simp only [List.getElem?_toArray, List.getElem?_cons_zero, List.getElem?_cons_succ] at RQ0 RQ1 RQ2 RQ3
    obtain ⟨R10, R11, R12, R13, R14⟩ := cell_row5 R1.out
    have KA : Hid (∀ W, Below v61.heap.size v61 W → (Below v61.heap.size v61 W ∧ W.cell? ⟨g + 1, 0, none⟩ = some (.int .i64 z0) ∧ W.cell? ⟨g + 1, 1, none⟩ = some (.int .i64 z0) ∧ W.cell? ⟨g + 2, 0, none⟩ = some (.int .i64 dx) ∧ W.cell? ⟨g + 2, 1, none⟩ = some (.int .i64 dy) ∧ W.cell? ⟨g + 2, 2, none⟩ = some (.int .i64 ex) ∧ W.cell? ⟨g + 2, 3, none⟩ = some (.int .i64 ey) ∧ W.cell? ⟨gR1, 0, none⟩ = some (.int .i64 k) ∧ W.cell? ⟨gR1, 1, none⟩ = some (.int .i64 u.k) ∧ W.cell? ⟨gR1, 2, none⟩ = some (.int .i64 u.n) ∧ W.cell? ⟨gR1, 3, none⟩ = some (.string u.s) ∧ W.cell? ⟨gR1, 4, none⟩ = some (.slice A1 N1 d1))) := by
      intro W hb
      have hc : ∀ (p : Addr) (y : Value), v61.cell? p = some y → W.cell? p = some y := fun p y h2 => (hb.cell (World.block_lt_of_cell? _ _ h2)).trans h2
      exact ⟨hb, hc _ _ RZ0, hc _ _ RZ1, hc _ _ RQ0, hc _ _ RQ1, hc _ _ RQ2, hc _ _ RQ3, hc _ _ R10, hc _ _ R11, hc _ _ R12, hc _ _ R13, hc _ _ R14⟩
    clear RZ0 RZ1 RQ0 RQ1 RQ2 RQ3 R10 R11 R12 R13 R14
    go_upto_region 6 with fail
    refine wp_region_noPanic ?_
    refine wp_region_held_drew (S := (fun W => Below v61.heap.size v61 W ∧ W.cell? ⟨g + 1, 0, none⟩ = some (.int .i64 z0) ∧ W.cell? ⟨g + 1, 1, none⟩ = some (.int .i64 z0) ∧ W.cell? ⟨g + 2, 0, none⟩ = some (.int .i64 dx) ∧ W.cell? ⟨g + 2, 1, none⟩ = some (.int .i64 dy) ∧ W.cell? ⟨g + 2, 2, none⟩ = some (.int .i64 ex) ∧ W.cell? ⟨g + 2, 3, none⟩ = some (.int .i64 ey) ∧ W.cell? ⟨gR1, 0, none⟩ = some (.int .i64 k) ∧ W.cell? ⟨gR1, 1, none⟩ = some (.int .i64 u.k) ∧ W.cell? ⟨gR1, 2, none⟩ = some (.int .i64 u.n) ∧ W.cell? ⟨gR1, 3, none⟩ = some (.string u.s) ∧ W.cell? ⟨gR1, 4, none⟩ = some (.slice A1 N1 d1))) (by kernel_rfl) ?_ (fun hHeld => ?_)
    · exact KA.out _ ((Below.refl _ _).drew)
    refine wpAnyH_ready (rs := [0]) (by kernel_rfl) (by simp) (AllReadyH.cons rfl (fun K hK => ?_) AllReadyH.nil)
    go_simp
    refine (alive9_any _).mono ?_
    rintro e wx ⟨rfl, bb⟩
    (try go_wp2_with fail)
    refine hK.out _ _ ?_ (fun hHeld => ?_)
    · (try dsimp only)
      exact KA.out _ (below_then hHeld.1 bb)
    clear hK K
    (try simp only [Act.put, List.setIfInBounds_toArray, List.set_cons_zero, List.set_cons_succ])
    refine wpAnyH_one (by kernel_rfl) (fun _ _ _ _ _ h => h) (by assumption) 1 11 (some 68) ?_ _ (by rfl) (by rfl) (by kernel_rfl) (by rfl) ?_ ?_
    rotate_left 1
    · intro W hSw
      (try dsimp only at hSw)
      go_simp
      (try with_reducible rfl)
    (try simp only [Act.put, List.setIfInBounds_toArray, List.set_cons_zero, List.set_cons_succ])
    refine wpAnyH_one (by kernel_rfl) (fun _ _ _ _ _ h => h) (by assumption) 2 10 (some 69) ?_ _ (by rfl) (by rfl) (by kernel_rfl) (by rfl) ?_ ?_
    rotate_left 1
    · intro W hSw
      (try dsimp only at hSw)
      go_simp
      (try with_reducible rfl)
    (try simp only [Act.put, List.setIfInBounds_toArray, List.set_cons_zero, List.set_cons_succ])
    refine wpAnyH_one (by kernel_rfl) (fun _ _ _ _ _ h => h) (by assumption) 3 9 (some 70) ?_ _ (by rfl) (by rfl) (by kernel_rfl) (by rfl) ?_ ?_
    rotate_left 1
    · intro W hSw
      (try dsimp only at hSw)
      go_simp
      (try with_reducible rfl)
    (try simp only [Act.put, List.setIfInBounds_toArray, List.set_cons_zero, List.set_cons_succ])
    refine wpAnyH_one (by kernel_rfl) (fun _ _ _ _ _ h => h) (by assumption) 4 8 (some 71) ?_ _ (by rfl) (by rfl) (by kernel_rfl) (by rfl) ?_ ?_
    rotate_left 1
    · intro W hSw
      (try dsimp only at hSw)
      go_simp
      (try with_reducible rfl)
    (try simp only [Act.put, List.setIfInBounds_toArray, List.set_cons_zero, List.set_cons_succ])
    refine wpAnyH_one (by kernel_rfl) (fun _ _ _ _ _ h => h) (by assumption) 7 7 (some 74) ?_ _ (by rfl) (by rfl) (by kernel_rfl) (by rfl) ?_ ?_
    rotate_left 1
    · intro W hSw
      (try dsimp only at hSw)
      go_simp
      (try with_reducible rfl)
    (try simp only [Act.put, List.setIfInBounds_toArray, List.set_cons_zero, List.set_cons_succ])
    refine wpAnyH_one (by kernel_rfl) (fun _ _ _ _ _ h => h) (by assumption) 8 6 (some 75) ?_ _ (by rfl) (by rfl) (by kernel_rfl) (by rfl) ?_ ?_
    rotate_left 1
    · intro W hSw
      (try dsimp only at hSw)
      go_simp
      (try with_reducible rfl)
    (try simp only [Act.put, List.setIfInBounds_toArray, List.set_cons_zero, List.set_cons_succ])
    refine wpAnyH_ready (rs := [5]) (by kernel_rfl) (by simp) (AllReadyH.cons rfl (fun K hK => ?_) AllReadyH.nil)
    go_simp
    refine (AT.out _ (RL1.out.below hHeld.1)).mono ?_
    rintro e wx ⟨A3, n3, d3, rfl, r3, bb⟩
    (try go_wp2_with fail)
    refine hK.out _ _ ?_ (fun hHeld => ?_)
    · (try dsimp only)
      exact KA.out _ (below_then hHeld.1 bb)
    clear hK K
    (try simp only [Act.put, List.setIfInBounds_toArray, List.set_cons_zero, List.set_cons_succ])
    refine wpAnyH_one (by kernel_rfl) (fun _ _ _ _ _ h => h) (by assumption) 6 4 (some 73) ?_ _ (by rfl) (by rfl) (by kernel_rfl) (by rfl) ?_ ?_
    rotate_left 1
    · intro W hSw
      (try dsimp only at hSw)
      go_simp
      (try with_reducible rfl)
    (try simp only [Act.put, List.setIfInBounds_toArray, List.set_cons_zero, List.set_cons_succ])
    refine wpAnyH_ready (rs := [9]) (by kernel_rfl) (by simp) (AllReadyH.cons rfl (fun K hK => ?_) AllReadyH.nil)
    go_simp
    refine (HA.out _ _ _ _ r3).mono ?_
    rintro e wx ⟨rfl, bb⟩
    (try go_wp2_with fail)
    refine hK.out _ _ ?_ (fun hHeld => ?_)
    · (try dsimp only)
      exact KA.out _ (below_then hHeld.1 bb)
    clear hK K
    (try simp only [Act.put, List.setIfInBounds_toArray, List.set_cons_zero, List.set_cons_succ])
    refine wpAnyH_one (by kernel_rfl) (fun _ _ _ _ _ h => h) (by assumption) 10 2 (some 77) ?_ _ (by rfl) (by rfl) (by kernel_rfl) (by rfl) ?_ ?_
    rotate_left 1
    · intro W hSw
      (try dsimp only at hSw)
      go_simp
      (try with_reducible rfl)
    (try simp only [Act.put, List.setIfInBounds_toArray, List.set_cons_zero, List.set_cons_succ])
    refine wpAnyH_one (by kernel_rfl) (fun _ _ _ _ _ h => h) (by assumption) 11 1 (some 78) ?_ _ (by rfl) (by rfl) (by kernel_rfl) (by rfl) ?_ ?_
    rotate_left 1
    · intro W hSw
      (try dsimp only at hSw)
      go_simp
      (try with_reducible rfl)
    (try simp only [Act.put, List.setIfInBounds_toArray, List.set_cons_zero, List.set_cons_succ])
    refine wpAnyH_one (by kernel_rfl) (fun _ _ _ _ _ h => h) (by assumption) 12 0 (some 8) ?_ _ (by rfl) (by rfl) (by kernel_rfl) (by rfl) ?_ ?_
    rotate_left 1
    · intro W hSw
      (try dsimp only at hSw)
      go_simp
      (try with_reducible rfl)
    (try simp only [Act.put, List.setIfInBounds_toArray, List.set_cons_zero, List.set_cons_succ])
    refine wpAnyH_done (by kernel_rfl) ?_ _
    refine NoPanic.normal ?_
    (try simp only [Act.put, List.setIfInBounds_toArray, List.set_cons_zero, List.set_cons_succ])
    have HZ := Lib.hid (below_then HB.out hHeld.1)
    go_wp2_with fail
    go_ret
    exact ⟨rfl, HZ.out⟩
  | false =>
    obtain ⟨he, hh⟩ := HW.out (fun e => by have h2 := e.2; rw [show knowsV kn ⟨dx, dy⟩ = false from hr.out] at h2; cases h2)
    obtain rfl := HN1.out he
    subst he
    have H1 : Hid (∀ W : World, RdP W A1 N1 d1 L1 → Calls Try.prog 23 #[cellV k u (.slice A1 N1 d1), .int .i64 z0] W fun e w' => e = .returned (.bool true) ∧ Below W.heap.size W w') := by
      intro W hW
      have := hasB_any k u A1 N1 d1 L1 z0 W hW
      rw [hh] at this
      exact this
    clear HW HX2 HN1 hr hh BNS
    have RZ0 := cell_row RZ.out 0
    have RZ1 := cell_row RZ.out 1
    simp only [List.getElem?_toArray, List.getElem?_cons_zero, List.getElem?_cons_succ] at RZ0 RZ1
    have RQ0 := cell_row RQ.out 0
    have RQ1 := cell_row RQ.out 1
    have RQ2 := cell_row RQ.out 2
    have RQ3 := cell_row RQ.out 3
    simp only [List.getElem?_toArray, List.getElem?_cons_zero, List.getElem?_cons_succ] at RQ0 RQ1 RQ2 RQ3
    go_wp2_with fail
    refine (CH.out _ RK.out).mono ?_
    rintro e v61 ⟨rfl, bb⟩
    replace RX := Lib.hid (row_below RX.out bb)
    replace RZ := Lib.hid (row_below RZ.out bb)
    replace RQ := Lib.hid (row_below RQ.out bb)
    replace R1 := Lib.hid (row_below R1.out bb)
    replace R2 := Lib.hid (row_below R2.out bb)
    replace RD := Lib.hid (RD.out.below bb)
    replace RK := Lib.hid (RK.out.below bb)
    replace RL1 := Lib.hid (RL1.out.below bb)
    replace RL2 := Lib.hid (RL2.out.below bb)
    replace HB := Lib.hid (below_then HB.out bb)
    clear bb
    clear RZ0 RZ1 RQ0 RQ1 RQ2 RQ3
    clear CH
    go_wp2_with fail
    refine (alive9_any _).mono ?_
    rintro e v62 ⟨rfl, bb⟩
    replace RX := Lib.hid (row_below RX.out bb)
    replace RZ := Lib.hid (row_below RZ.out bb)
    replace RQ := Lib.hid (row_below RQ.out bb)
    replace R1 := Lib.hid (row_below R1.out bb)
    replace R2 := Lib.hid (row_below R2.out bb)
    replace RD := Lib.hid (RD.out.below bb)
    replace RK := Lib.hid (RK.out.below bb)
    replace RL1 := Lib.hid (RL1.out.below bb)
    replace RL2 := Lib.hid (RL2.out.below bb)
    replace HB := Lib.hid (below_then HB.out bb)
    clear bb
    obtain ⟨R10, R11, R12, R13, R14⟩ := cell_row5 R1.out
    obtain ⟨R20, R21, R22, R23, R24⟩ := cell_row5 R2.out
    go_wp2_with fail
    refine (same7_is k u A1 A2 N1 d1 d2 L1 _ RL1.out RL2.out).mono ?_
    rintro e v63 ⟨rfl, bb⟩
    replace RX := Lib.hid (row_below RX.out bb)
    replace RZ := Lib.hid (row_below RZ.out bb)
    replace RQ := Lib.hid (row_below RQ.out bb)
    replace R1 := Lib.hid (row_below R1.out bb)
    replace R2 := Lib.hid (row_below R2.out bb)
    replace RD := Lib.hid (RD.out.below bb)
    replace RK := Lib.hid (RK.out.below bb)
    replace RL1 := Lib.hid (RL1.out.below bb)
    replace RL2 := Lib.hid (RL2.out.below bb)
    replace HB := Lib.hid (below_then HB.out bb)
    clear bb
    clear R10 R11 R12 R13 R14 R20 R21 R22 R23 R24
    obtain ⟨R10, R11, R12, R13, R14⟩ := cell_row5 R1.out
    have RZ0 := cell_row RZ.out 0
    have RZ1 := cell_row RZ.out 1
    simp only [List.getElem?_toArray, List.getElem?_cons_zero, List.getElem?_cons_succ] at RZ0 RZ1
    go_wp2_with fail
    refine (H1.out _ RL1.out).mono ?_
    rintro e v64 ⟨rfl, bb⟩
    replace RX := Lib.hid (row_below RX.out bb)
    replace RZ := Lib.hid (row_below RZ.out bb)
    replace RQ := Lib.hid (row_below RQ.out bb)
    replace R1 := Lib.hid (row_below R1.out bb)
    replace R2 := Lib.hid (row_below R2.out bb)
    replace RD := Lib.hid (RD.out.below bb)
    replace RK := Lib.hid (RK.out.below bb)
    replace RL1 := Lib.hid (RL1.out.below bb)
    replace RL2 := Lib.hid (RL2.out.below bb)
    replace HB := Lib.hid (below_then HB.out bb)
    clear bb
    clear R10 R11 R12 R13 R14 RZ0 RZ1
    go_wp2_with fail
    go_ret
    exact ⟨rfl, HB.out⟩

set_option maxRecDepth 100000 in
theorem contract (H : Type) (enc : TypeId × Value → H) (W : World) (base : Nat) (args : Array Value) (ds gs : List (DataW H)) (before : List MemPlace)
    (hval : ∀ (j : Nat) t v, Try.f7.params[j]? = some t → args[j]? = some v → Value.okWide Try.prog W .any base t v)
    (hW : DataW.Whole enc Try.prog Try.f7.params.toList Rows.bagWinsSpec.vars false W args.toList ds gs before) :
    Calls Try.prog 7 args W fun e W' => ∃ v, e = .returned v ∧ Rows.bagWinsSpec.post enc Try.prog Try.f7 false true false false W args v W' := by
  have hlt : ∀ x ∈ before, x.block < W.heap.size := fun x hx => by simpa using hW.lt x hx
  refine law_step 4 Try.laid_ (by kernel_rfl) rfl Try.underlying4 rfl hW (fun xs hx => ?_) ?_
  · match xs, hx with
    | [d0, d1, d2, d3], _ => rfl
  · obtain ⟨p, q, hA0, hV, rfl, _, _⟩ := hW
    have hA : DataW.TrodAll enc Try.prog W 0 (fun _ => true) true Try.f7.params.toList args.toList ds p := hA0
    rw [Try.params7] at hA hval
    obtain ⟨v0, vs0, d0, ds0, p0, q0, e0, rfl, rfl, h0, r0⟩ := trodAll_cons hA
    obtain ⟨v1, vs1, d1, ds1, p1, q1, e1, rfl, rfl, h1, r1⟩ := trodAll_cons r0
    obtain ⟨v2, vs2, d2, ds2, p2, q2, e2, rfl, rfl, h2, r2⟩ := trodAll_cons r1
    obtain ⟨v3, vs3, d3, ds3, p3, q3, e3, rfl, rfl, h3, r3⟩ := trodAll_cons r2
    obtain ⟨rfl, rfl, rfl⟩ := trodAll_nil r3
    subst e3
    subst e2
    subst e1
    obtain rfl : args = #[v0, v1, v2, v3] := by cases args; simp_all
    clear e0 hA0
    obtain ⟨k0, u0, A0, n0, c0, l, rfl, rd0, wk0, wu0, wl0⟩ := open_cell (hval 0 26 v0 rfl rfl) h0
    obtain ⟨x1, y1, rfl, wx1, wy1⟩ := open_arr2 (hval 1 44 v1 rfl rfl) h1
    obtain ⟨x2, y2, rfl⟩ := open_dot2 (hval 2 50 v2 rfl rfl) h2
    obtain ⟨A3, n3, c3, kn, rfl, rd3, wf3⟩ := open_vec (hval 3 33 v3 rfl rfl) h3 (fun x hx => hlt x (by simp [hx]))
    exact walk k0 u0 A0 n0 c0 l x1 y1 x2.d x2.s y2.d y2.s A3 n3 c3 kn W rd0 rd3

set_option maxRecDepth 100000 in
theorem lifted (os : Os) (started : os.Started) (H : Type) (enc : TypeId × Value → H) :
    ReturnsInHanded {} Try.checked os 7 .any (Rows.bagWinsSpec.pre6 enc Try.prog Try.f7 Rows.bagWinsRow.domain false) (Rows.bagWinsSpec.post enc Try.prog Try.f7 false true false false) := by
  refine returnsInHanded_of_change (C := Try.checked) Try.own_ started (by kernel_rfl) Try.func7
    (ChangeSpec.witness6 (enc := enc) (C := Try.checked) false ⟨#[], #[.agg #[.int .i64 0, .int .i64 0, .int .i64 0, .string ⟨#[]⟩, .slice none 0 0], .agg #[.int .i64 0, .int .i64 0], .agg #[.int .i64 0, .int .i64 0, .int .i64 0, .int .i64 0], .slice none 0 0], []⟩ 8 (by kernel_rfl) (by kernel_rfl) (by kernel_rfl) (by kernel_rfl)) ?_
  intro W base args ds gs before hval hW _ _
  exact contract H enc W base args ds gs before hval hW

theorem holds : Rows.BagWinsSaid :=
  OpenClaim.holds_of_wide 7 Try.f7 rfl rfl rfl rfl rfl rfl rfl ⟨rfl, rfl, rfl, rfl, rfl⟩ rfl rfl rfl rfl rfl (by kernel_rfl) Try.func7 (by kernel_rfl)
    (of_decide_eq_true (by kernel_rfl)) (by unfold Func.isWrapper; first | (rw [if_pos (by decide +kernel)]; kernel_rfl) | (rw [if_neg (by decide +kernel)]; exact ⟨rfl, rfl⟩))
    (fun os started H enc _ => lifted os started H enc)
end Go.Proofs.Ytomdbjmbkfdcmaa.bagWins

