/- Behind a write by one who knew of all parts there is its own alone; behind one who knew of none each of the others is there, too; what is written is right, if it may be. Of all cells, parts, vectors. -/
import Derived.Test.YtieaobeidlhefaaRows
import Derived.Test.YtieaobeidlhefaaLaw
import Derived.Test.YtieaobeidlhefaaMulAlive
import Derived.Test.YtieaobeidlhefaaMbOpen
namespace Go.Proofs.Ytieaobeidlhefaa.multiOver
open Go.ChangeShapes Go.WideShapes Go.ChangeAt Go.RowKit Go.ChangeMaps

set_option maxRecDepth 100000 in
set_option maxHeartbeats 12800000 in
theorem walk (k : Int) (u : V3) (A : Option Addr) (n c : Nat) (l : List P11) (p : P11) (B : Option Addr) (m d : Nat) (kn : List Int) (w : World) (h : RdP w A n c l) (hk : Rd w B m d (vals .i64 kn)) :
    Calls Try.prog 6 #[cellV k u (.slice A n c), p.agg, .slice B m d] w fun e w' => e = .returned (.bool true) ∧ Below w.heap.size w w' := by
  have HB := Lib.hid (Below.refl w.heap.size w)
  have HLN := Lib.hid h.len
  have hle := h.le
  have RD := Lib.hid h
  have RK := Lib.hid hk
  clear h hk
  obtain ⟨r1, hr1⟩ : ∃ r, Hid (rightC k u l = r) := ⟨_, rfl⟩
  have CR1 : Hid (∀ W : World, RdP W A n c l → Calls Try.prog 17 #[cellV k u (.slice A n c)] W fun e w' => e = .returned (.bool r1) ∧ Below W.heap.size W w') := by
    intro W hW; rw [← hr1.out]; exact right7_any k u A n c l W hW
  obtain ⟨r2, hr2⟩ : ∃ r, Hid (p.v.right = r) := ⟨_, rfl⟩
  have CR2 : Hid (∀ W : World, Calls Try.prog 24 #[.agg #[.int .i64 p.v.k, .int .i64 p.v.n, .string p.v.s]] W fun e w' => e = .returned (.bool r2) ∧ Below W.heap.size W w') := by
    intro W; rw [← hr2.out]; exact refRight_val p.v W
  by_cases hn : n ≤ 60
  rotate_left
  · have FW : Hid (∀ W : World, Calls Try.prog 15 #[cellV k u (.slice A n c)] W fun e w' => e = .returned (.bool false) ∧ Below W.heap.size W w') := by
      intro W
      have := refFew_any k u A n c W
      rwa [decide_eq_false (by omega)] at this
    clear hn
    obtain ⟨g, hg⟩ : ∃ g, g = w.heap.size := ⟨_, rfl⟩
    obtain ⟨w0, hw0⟩ : ∃ w1, w1 = ((w.alloc (cellRow k u (.slice A n c))).alloc (partCells p)) := ⟨_, rfl⟩
    have HW0 := Lib.hid hw0; have HG := Lib.hid hg
    have hat : ∀ (w : World) (o : Obj) (g : Nat), w.heap.size = g → (w.alloc o).heap[g]? = some o := fun w o g h => by subst h; exact heap_alloc_new _ _
    have bb : Below w.heap.size w w0 := by rw [hw0]; exact below_new (below_new (Below.refl _ _) _) _
    have RX : Hid (w0.heap[g]? = some (cellRow k u (.slice A n c))) := by
      show _ = _
      rw [hw0, hg]
      rw [Below.heap_alloc _ _ _ (by simp only [World.size_alloc]; omega)]
      exact hat _ _ _ rfl
    have RP : Hid (w0.heap[g + 1]? = some (partCells p)) := by
      show _ = _
      rw [hw0, hg]
      skip
      exact hat _ _ _ (by simp only [World.size_alloc])
    replace RD := Lib.hid (RD.out.below bb)
    replace RK := Lib.hid (RK.out.below bb)
    replace HB := Lib.hid (below_then HB.out bb)
    clear bb hg hw0 hat
    go_enter Try.func6, Try.ntmps6
    go_upto_region 1 with fail
    rw [← HG.out]
    rw [show ((w.alloc (Obj.cells #[Value.int .i64 k, .int .i64 u.k, .int .i64 u.n, .string u.s, .slice A n c] 26)).alloc (Obj.cells #[Value.int .i64 p.v.k, .int .i64 p.v.n, .string p.v.s, .int .i64 p.d.d, .int .i64 p.d.s, .int .i64 p.i, .int .i64 p.t, .int .i64 p.a.d, .int .i64 p.a.s, .int .i64 p.j, .bool p.g] 32)) = w0 from HW0.out.symm]
    clear HW0
    obtain ⟨RX0, RX1, RX2, RX3, RX4⟩ := cell_row5 RX.out
    go_wp2_with fail
    refine (FW.out _).mono ?_
    rintro e v1 ⟨rfl, bb⟩
    replace RX := Lib.hid (row_below RX.out bb)
    replace RP := Lib.hid (row_below RP.out bb)
    replace RD := Lib.hid (RD.out.below bb)
    replace RK := Lib.hid (RK.out.below bb)
    replace HB := Lib.hid (below_then HB.out bb)
    clear bb
    clear RX0 RX1 RX2 RX3 RX4
    go_wp2_with fail
    refine (alive7_any _).mono ?_
    rintro e v2 ⟨rfl, bb⟩
    replace RX := Lib.hid (row_below RX.out bb)
    replace RP := Lib.hid (row_below RP.out bb)
    replace RD := Lib.hid (RD.out.below bb)
    replace RK := Lib.hid (RK.out.below bb)
    replace HB := Lib.hid (below_then HB.out bb)
    clear bb
    go_wp2_with fail
    go_ret
    exact ⟨rfl, HB.out⟩
  by_cases hm : m ≤ 100
  rotate_left
  · have FW : Hid (∀ W : World, Calls Try.prog 15 #[cellV k u (.slice A n c)] W fun e w' => e = .returned (.bool true) ∧ Below W.heap.size W w') := by
      intro W
      have := refFew_any k u A n c W
      rwa [decide_eq_true (by omega)] at this
    have hm1 : (100 : Int) < (m : Int) := by omega
    clear hn hm
    obtain ⟨g, hg⟩ : ∃ g, g = w.heap.size := ⟨_, rfl⟩
    obtain ⟨w0, hw0⟩ : ∃ w1, w1 = ((w.alloc (cellRow k u (.slice A n c))).alloc (partCells p)) := ⟨_, rfl⟩
    have HW0 := Lib.hid hw0; have HG := Lib.hid hg
    have hat : ∀ (w : World) (o : Obj) (g : Nat), w.heap.size = g → (w.alloc o).heap[g]? = some o := fun w o g h => by subst h; exact heap_alloc_new _ _
    have bb : Below w.heap.size w w0 := by rw [hw0]; exact below_new (below_new (Below.refl _ _) _) _
    have RX : Hid (w0.heap[g]? = some (cellRow k u (.slice A n c))) := by
      show _ = _
      rw [hw0, hg]
      rw [Below.heap_alloc _ _ _ (by simp only [World.size_alloc]; omega)]
      exact hat _ _ _ rfl
    have RP : Hid (w0.heap[g + 1]? = some (partCells p)) := by
      show _ = _
      rw [hw0, hg]
      skip
      exact hat _ _ _ (by simp only [World.size_alloc])
    replace RD := Lib.hid (RD.out.below bb)
    replace RK := Lib.hid (RK.out.below bb)
    replace HB := Lib.hid (below_then HB.out bb)
    clear bb hg hw0 hat
    go_enter Try.func6, Try.ntmps6
    go_upto_region 1 with fail
    rw [← HG.out]
    rw [show ((w.alloc (Obj.cells #[Value.int .i64 k, .int .i64 u.k, .int .i64 u.n, .string u.s, .slice A n c] 26)).alloc (Obj.cells #[Value.int .i64 p.v.k, .int .i64 p.v.n, .string p.v.s, .int .i64 p.d.d, .int .i64 p.d.s, .int .i64 p.i, .int .i64 p.t, .int .i64 p.a.d, .int .i64 p.a.s, .int .i64 p.j, .bool p.g] 32)) = w0 from HW0.out.symm]
    clear HW0
    obtain ⟨RX0, RX1, RX2, RX3, RX4⟩ := cell_row5 RX.out
    go_wp2_with fail
    refine (FW.out _).mono ?_
    rintro e v1 ⟨rfl, bb⟩
    replace RX := Lib.hid (row_below RX.out bb)
    replace RP := Lib.hid (row_below RP.out bb)
    replace RD := Lib.hid (RD.out.below bb)
    replace RK := Lib.hid (RK.out.below bb)
    replace HB := Lib.hid (below_then HB.out bb)
    clear bb
    clear RX0 RX1 RX2 RX3 RX4
    go_wp2_with fail
    refine (alive7_any _).mono ?_
    rintro e v2 ⟨rfl, bb⟩
    replace RX := Lib.hid (row_below RX.out bb)
    replace RP := Lib.hid (row_below RP.out bb)
    replace RD := Lib.hid (RD.out.below bb)
    replace RK := Lib.hid (RK.out.below bb)
    replace HB := Lib.hid (below_then HB.out bb)
    clear bb
    go_wp2_with fail
    go_ret
    exact ⟨rfl, HB.out⟩
  cases r1 with
  | false =>
    have FW : Hid (∀ W : World, Calls Try.prog 15 #[cellV k u (.slice A n c)] W fun e w' => e = .returned (.bool true) ∧ Below W.heap.size W w') := by
      intro W
      have := refFew_any k u A n c W
      rwa [decide_eq_true (by omega)] at this
    have hm1 : ¬ (100 : Int) < (m : Int) := by omega
    clear hn hm
    obtain ⟨g, hg⟩ : ∃ g, g = w.heap.size := ⟨_, rfl⟩
    obtain ⟨w0, hw0⟩ : ∃ w1, w1 = ((w.alloc (cellRow k u (.slice A n c))).alloc (partCells p)) := ⟨_, rfl⟩
    have HW0 := Lib.hid hw0; have HG := Lib.hid hg
    have hat : ∀ (w : World) (o : Obj) (g : Nat), w.heap.size = g → (w.alloc o).heap[g]? = some o := fun w o g h => by subst h; exact heap_alloc_new _ _
    have bb : Below w.heap.size w w0 := by rw [hw0]; exact below_new (below_new (Below.refl _ _) _) _
    have RX : Hid (w0.heap[g]? = some (cellRow k u (.slice A n c))) := by
      show _ = _
      rw [hw0, hg]
      rw [Below.heap_alloc _ _ _ (by simp only [World.size_alloc]; omega)]
      exact hat _ _ _ rfl
    have RP : Hid (w0.heap[g + 1]? = some (partCells p)) := by
      show _ = _
      rw [hw0, hg]
      skip
      exact hat _ _ _ (by simp only [World.size_alloc])
    replace RD := Lib.hid (RD.out.below bb)
    replace RK := Lib.hid (RK.out.below bb)
    replace HB := Lib.hid (below_then HB.out bb)
    clear bb hg hw0 hat
    go_enter Try.func6, Try.ntmps6
    go_upto_region 1 with fail
    rw [← HG.out]
    rw [show ((w.alloc (Obj.cells #[Value.int .i64 k, .int .i64 u.k, .int .i64 u.n, .string u.s, .slice A n c] 26)).alloc (Obj.cells #[Value.int .i64 p.v.k, .int .i64 p.v.n, .string p.v.s, .int .i64 p.d.d, .int .i64 p.d.s, .int .i64 p.i, .int .i64 p.t, .int .i64 p.a.d, .int .i64 p.a.s, .int .i64 p.j, .bool p.g] 32)) = w0 from HW0.out.symm]
    clear HW0
    obtain ⟨RX0, RX1, RX2, RX3, RX4⟩ := cell_row5 RX.out
    go_wp2_with fail
    refine (FW.out _).mono ?_
    rintro e v1 ⟨rfl, bb⟩
    replace RX := Lib.hid (row_below RX.out bb)
    replace RP := Lib.hid (row_below RP.out bb)
    replace RD := Lib.hid (RD.out.below bb)
    replace RK := Lib.hid (RK.out.below bb)
    replace HB := Lib.hid (below_then HB.out bb)
    clear bb
    clear RX0 RX1 RX2 RX3 RX4
    obtain ⟨RX0, RX1, RX2, RX3, RX4⟩ := cell_row5 RX.out
    go_wp2_with fail
    refine (CR1.out _ RD.out).mono ?_
    rintro e v2 ⟨rfl, bb⟩
    replace RX := Lib.hid (row_below RX.out bb)
    replace RP := Lib.hid (row_below RP.out bb)
    replace RD := Lib.hid (RD.out.below bb)
    replace RK := Lib.hid (RK.out.below bb)
    replace HB := Lib.hid (below_then HB.out bb)
    clear bb
    clear RX0 RX1 RX2 RX3 RX4
    go_wp2_with fail
    refine (alive7_any _).mono ?_
    rintro e v3 ⟨rfl, bb⟩
    replace RX := Lib.hid (row_below RX.out bb)
    replace RP := Lib.hid (row_below RP.out bb)
    replace RD := Lib.hid (RD.out.below bb)
    replace RK := Lib.hid (RK.out.below bb)
    replace HB := Lib.hid (below_then HB.out bb)
    clear bb
    go_wp2_with fail
    go_ret
    exact ⟨rfl, HB.out⟩
  | true =>
  cases r2 with
  | false =>
    have FW : Hid (∀ W : World, Calls Try.prog 15 #[cellV k u (.slice A n c)] W fun e w' => e = .returned (.bool true) ∧ Below W.heap.size W w') := by
      intro W
      have := refFew_any k u A n c W
      rwa [decide_eq_true (by omega)] at this
    have hm1 : ¬ (100 : Int) < (m : Int) := by omega
    clear hn hm
    obtain ⟨g, hg⟩ : ∃ g, g = w.heap.size := ⟨_, rfl⟩
    obtain ⟨w0, hw0⟩ : ∃ w1, w1 = ((w.alloc (cellRow k u (.slice A n c))).alloc (partCells p)) := ⟨_, rfl⟩
    have HW0 := Lib.hid hw0; have HG := Lib.hid hg
    have hat : ∀ (w : World) (o : Obj) (g : Nat), w.heap.size = g → (w.alloc o).heap[g]? = some o := fun w o g h => by subst h; exact heap_alloc_new _ _
    have bb : Below w.heap.size w w0 := by rw [hw0]; exact below_new (below_new (Below.refl _ _) _) _
    have RX : Hid (w0.heap[g]? = some (cellRow k u (.slice A n c))) := by
      show _ = _
      rw [hw0, hg]
      rw [Below.heap_alloc _ _ _ (by simp only [World.size_alloc]; omega)]
      exact hat _ _ _ rfl
    have RP : Hid (w0.heap[g + 1]? = some (partCells p)) := by
      show _ = _
      rw [hw0, hg]
      skip
      exact hat _ _ _ (by simp only [World.size_alloc])
    replace RD := Lib.hid (RD.out.below bb)
    replace RK := Lib.hid (RK.out.below bb)
    replace HB := Lib.hid (below_then HB.out bb)
    clear bb hg hw0 hat
    go_enter Try.func6, Try.ntmps6
    go_upto_region 1 with fail
    rw [← HG.out]
    rw [show ((w.alloc (Obj.cells #[Value.int .i64 k, .int .i64 u.k, .int .i64 u.n, .string u.s, .slice A n c] 26)).alloc (Obj.cells #[Value.int .i64 p.v.k, .int .i64 p.v.n, .string p.v.s, .int .i64 p.d.d, .int .i64 p.d.s, .int .i64 p.i, .int .i64 p.t, .int .i64 p.a.d, .int .i64 p.a.s, .int .i64 p.j, .bool p.g] 32)) = w0 from HW0.out.symm]
    clear HW0
    obtain ⟨RX0, RX1, RX2, RX3, RX4⟩ := cell_row5 RX.out
    go_wp2_with fail
    refine (FW.out _).mono ?_
    rintro e v1 ⟨rfl, bb⟩
    replace RX := Lib.hid (row_below RX.out bb)
    replace RP := Lib.hid (row_below RP.out bb)
    replace RD := Lib.hid (RD.out.below bb)
    replace RK := Lib.hid (RK.out.below bb)
    replace HB := Lib.hid (below_then HB.out bb)
    clear bb
    clear RX0 RX1 RX2 RX3 RX4
    obtain ⟨RX0, RX1, RX2, RX3, RX4⟩ := cell_row5 RX.out
    go_wp2_with fail
    refine (CR1.out _ RD.out).mono ?_
    rintro e v2 ⟨rfl, bb⟩
    replace RX := Lib.hid (row_below RX.out bb)
    replace RP := Lib.hid (row_below RP.out bb)
    replace RD := Lib.hid (RD.out.below bb)
    replace RK := Lib.hid (RK.out.below bb)
    replace HB := Lib.hid (below_then HB.out bb)
    clear bb
    clear RX0 RX1 RX2 RX3 RX4
    obtain ⟨RP0, RP1, RP2, RP3, RP4, RP5, RP6, RP7, RP8, RP9, RP10⟩ := part_row RP.out
    go_wp2_with fail
    refine (CR2.out _).mono ?_
    rintro e v3 ⟨rfl, bb⟩
    replace RX := Lib.hid (row_below RX.out bb)
    replace RP := Lib.hid (row_below RP.out bb)
    replace RD := Lib.hid (RD.out.below bb)
    replace RK := Lib.hid (RK.out.below bb)
    replace HB := Lib.hid (below_then HB.out bb)
    clear bb
    clear RP0 RP1 RP2 RP3 RP4 RP5 RP6 RP7 RP8 RP9 RP10
    go_wp2_with fail
    refine (alive7_any _).mono ?_
    rintro e v4 ⟨rfl, bb⟩
    replace RX := Lib.hid (row_below RX.out bb)
    replace RP := Lib.hid (row_below RP.out bb)
    replace RD := Lib.hid (RD.out.below bb)
    replace RK := Lib.hid (RK.out.below bb)
    replace HB := Lib.hid (below_then HB.out bb)
    clear bb
    go_wp2_with fail
    go_ret
    exact ⟨rfl, HB.out⟩
  | true =>
  by_cases hb1 : p.d.d < 1
  · have FW : Hid (∀ W : World, Calls Try.prog 15 #[cellV k u (.slice A n c)] W fun e w' => e = .returned (.bool true) ∧ Below W.heap.size W w') := by
      intro W
      have := refFew_any k u A n c W
      rwa [decide_eq_true (by omega)] at this
    have hm1 : ¬ (100 : Int) < (m : Int) := by omega
    clear hn hm
    obtain ⟨g, hg⟩ : ∃ g, g = w.heap.size := ⟨_, rfl⟩
    obtain ⟨w0, hw0⟩ : ∃ w1, w1 = ((w.alloc (cellRow k u (.slice A n c))).alloc (partCells p)) := ⟨_, rfl⟩
    have HW0 := Lib.hid hw0; have HG := Lib.hid hg
    have hat : ∀ (w : World) (o : Obj) (g : Nat), w.heap.size = g → (w.alloc o).heap[g]? = some o := fun w o g h => by subst h; exact heap_alloc_new _ _
    have bb : Below w.heap.size w w0 := by rw [hw0]; exact below_new (below_new (Below.refl _ _) _) _
    have RX : Hid (w0.heap[g]? = some (cellRow k u (.slice A n c))) := by
      show _ = _
      rw [hw0, hg]
      rw [Below.heap_alloc _ _ _ (by simp only [World.size_alloc]; omega)]
      exact hat _ _ _ rfl
    have RP : Hid (w0.heap[g + 1]? = some (partCells p)) := by
      show _ = _
      rw [hw0, hg]
      skip
      exact hat _ _ _ (by simp only [World.size_alloc])
    replace RD := Lib.hid (RD.out.below bb)
    replace RK := Lib.hid (RK.out.below bb)
    replace HB := Lib.hid (below_then HB.out bb)
    clear bb hg hw0 hat
    go_enter Try.func6, Try.ntmps6
    go_upto_region 1 with fail
    rw [← HG.out]
    rw [show ((w.alloc (Obj.cells #[Value.int .i64 k, .int .i64 u.k, .int .i64 u.n, .string u.s, .slice A n c] 26)).alloc (Obj.cells #[Value.int .i64 p.v.k, .int .i64 p.v.n, .string p.v.s, .int .i64 p.d.d, .int .i64 p.d.s, .int .i64 p.i, .int .i64 p.t, .int .i64 p.a.d, .int .i64 p.a.s, .int .i64 p.j, .bool p.g] 32)) = w0 from HW0.out.symm]
    clear HW0
    obtain ⟨RX0, RX1, RX2, RX3, RX4⟩ := cell_row5 RX.out
    go_wp2_with fail
    refine (FW.out _).mono ?_
    rintro e v1 ⟨rfl, bb⟩
    replace RX := Lib.hid (row_below RX.out bb)
    replace RP := Lib.hid (row_below RP.out bb)
    replace RD := Lib.hid (RD.out.below bb)
    replace RK := Lib.hid (RK.out.below bb)
    replace HB := Lib.hid (below_then HB.out bb)
    clear bb
    clear RX0 RX1 RX2 RX3 RX4
    obtain ⟨RX0, RX1, RX2, RX3, RX4⟩ := cell_row5 RX.out
    go_wp2_with fail
    refine (CR1.out _ RD.out).mono ?_
    rintro e v2 ⟨rfl, bb⟩
    replace RX := Lib.hid (row_below RX.out bb)
    replace RP := Lib.hid (row_below RP.out bb)
    replace RD := Lib.hid (RD.out.below bb)
    replace RK := Lib.hid (RK.out.below bb)
    replace HB := Lib.hid (below_then HB.out bb)
    clear bb
    clear RX0 RX1 RX2 RX3 RX4
    obtain ⟨RP0, RP1, RP2, RP3, RP4, RP5, RP6, RP7, RP8, RP9, RP10⟩ := part_row RP.out
    go_wp2_with fail
    refine (CR2.out _).mono ?_
    rintro e v3 ⟨rfl, bb⟩
    replace RX := Lib.hid (row_below RX.out bb)
    replace RP := Lib.hid (row_below RP.out bb)
    replace RD := Lib.hid (RD.out.below bb)
    replace RK := Lib.hid (RK.out.below bb)
    replace HB := Lib.hid (below_then HB.out bb)
    clear bb
    clear RP0 RP1 RP2 RP3 RP4 RP5 RP6 RP7 RP8 RP9 RP10
    obtain ⟨RP0, RP1, RP2, RP3, RP4, RP5, RP6, RP7, RP8, RP9, RP10⟩ := part_row RP.out
    go_wp2_with fail
    refine (alive7_any _).mono ?_
    rintro e v4 ⟨rfl, bb⟩
    replace RX := Lib.hid (row_below RX.out bb)
    replace RP := Lib.hid (row_below RP.out bb)
    replace RD := Lib.hid (RD.out.below bb)
    replace RK := Lib.hid (RK.out.below bb)
    replace HB := Lib.hid (below_then HB.out bb)
    clear bb
    go_wp2_with fail
    go_ret
    exact ⟨rfl, HB.out⟩
  by_cases hb2 : 64 < p.d.d
  · have FW : Hid (∀ W : World, Calls Try.prog 15 #[cellV k u (.slice A n c)] W fun e w' => e = .returned (.bool true) ∧ Below W.heap.size W w') := by
      intro W
      have := refFew_any k u A n c W
      rwa [decide_eq_true (by omega)] at this
    have hm1 : ¬ (100 : Int) < (m : Int) := by omega
    clear hn hm
    obtain ⟨g, hg⟩ : ∃ g, g = w.heap.size := ⟨_, rfl⟩
    obtain ⟨w0, hw0⟩ : ∃ w1, w1 = ((w.alloc (cellRow k u (.slice A n c))).alloc (partCells p)) := ⟨_, rfl⟩
    have HW0 := Lib.hid hw0; have HG := Lib.hid hg
    have hat : ∀ (w : World) (o : Obj) (g : Nat), w.heap.size = g → (w.alloc o).heap[g]? = some o := fun w o g h => by subst h; exact heap_alloc_new _ _
    have bb : Below w.heap.size w w0 := by rw [hw0]; exact below_new (below_new (Below.refl _ _) _) _
    have RX : Hid (w0.heap[g]? = some (cellRow k u (.slice A n c))) := by
      show _ = _
      rw [hw0, hg]
      rw [Below.heap_alloc _ _ _ (by simp only [World.size_alloc]; omega)]
      exact hat _ _ _ rfl
    have RP : Hid (w0.heap[g + 1]? = some (partCells p)) := by
      show _ = _
      rw [hw0, hg]
      skip
      exact hat _ _ _ (by simp only [World.size_alloc])
    replace RD := Lib.hid (RD.out.below bb)
    replace RK := Lib.hid (RK.out.below bb)
    replace HB := Lib.hid (below_then HB.out bb)
    clear bb hg hw0 hat
    go_enter Try.func6, Try.ntmps6
    go_upto_region 1 with fail
    rw [← HG.out]
    rw [show ((w.alloc (Obj.cells #[Value.int .i64 k, .int .i64 u.k, .int .i64 u.n, .string u.s, .slice A n c] 26)).alloc (Obj.cells #[Value.int .i64 p.v.k, .int .i64 p.v.n, .string p.v.s, .int .i64 p.d.d, .int .i64 p.d.s, .int .i64 p.i, .int .i64 p.t, .int .i64 p.a.d, .int .i64 p.a.s, .int .i64 p.j, .bool p.g] 32)) = w0 from HW0.out.symm]
    clear HW0
    obtain ⟨RX0, RX1, RX2, RX3, RX4⟩ := cell_row5 RX.out
    go_wp2_with fail
    refine (FW.out _).mono ?_
    rintro e v1 ⟨rfl, bb⟩
    replace RX := Lib.hid (row_below RX.out bb)
    replace RP := Lib.hid (row_below RP.out bb)
    replace RD := Lib.hid (RD.out.below bb)
    replace RK := Lib.hid (RK.out.below bb)
    replace HB := Lib.hid (below_then HB.out bb)
    clear bb
    clear RX0 RX1 RX2 RX3 RX4
    obtain ⟨RX0, RX1, RX2, RX3, RX4⟩ := cell_row5 RX.out
    go_wp2_with fail
    refine (CR1.out _ RD.out).mono ?_
    rintro e v2 ⟨rfl, bb⟩
    replace RX := Lib.hid (row_below RX.out bb)
    replace RP := Lib.hid (row_below RP.out bb)
    replace RD := Lib.hid (RD.out.below bb)
    replace RK := Lib.hid (RK.out.below bb)
    replace HB := Lib.hid (below_then HB.out bb)
    clear bb
    clear RX0 RX1 RX2 RX3 RX4
    obtain ⟨RP0, RP1, RP2, RP3, RP4, RP5, RP6, RP7, RP8, RP9, RP10⟩ := part_row RP.out
    go_wp2_with fail
    refine (CR2.out _).mono ?_
    rintro e v3 ⟨rfl, bb⟩
    replace RX := Lib.hid (row_below RX.out bb)
    replace RP := Lib.hid (row_below RP.out bb)
    replace RD := Lib.hid (RD.out.below bb)
    replace RK := Lib.hid (RK.out.below bb)
    replace HB := Lib.hid (below_then HB.out bb)
    clear bb
    clear RP0 RP1 RP2 RP3 RP4 RP5 RP6 RP7 RP8 RP9 RP10
    obtain ⟨RP0, RP1, RP2, RP3, RP4, RP5, RP6, RP7, RP8, RP9, RP10⟩ := part_row RP.out
    go_wp2_with fail
    refine (alive7_any _).mono ?_
    rintro e v4 ⟨rfl, bb⟩
    replace RX := Lib.hid (row_below RX.out bb)
    replace RP := Lib.hid (row_below RP.out bb)
    replace RD := Lib.hid (RD.out.below bb)
    replace RK := Lib.hid (RK.out.below bb)
    replace HB := Lib.hid (below_then HB.out bb)
    clear bb
    go_wp2_with fail
    go_ret
    exact ⟨rfl, HB.out⟩
  by_cases hb3 : p.d.s < 1
  · have FW : Hid (∀ W : World, Calls Try.prog 15 #[cellV k u (.slice A n c)] W fun e w' => e = .returned (.bool true) ∧ Below W.heap.size W w') := by
      intro W
      have := refFew_any k u A n c W
      rwa [decide_eq_true (by omega)] at this
    have hm1 : ¬ (100 : Int) < (m : Int) := by omega
    clear hn hm
    obtain ⟨g, hg⟩ : ∃ g, g = w.heap.size := ⟨_, rfl⟩
    obtain ⟨w0, hw0⟩ : ∃ w1, w1 = ((w.alloc (cellRow k u (.slice A n c))).alloc (partCells p)) := ⟨_, rfl⟩
    have HW0 := Lib.hid hw0; have HG := Lib.hid hg
    have hat : ∀ (w : World) (o : Obj) (g : Nat), w.heap.size = g → (w.alloc o).heap[g]? = some o := fun w o g h => by subst h; exact heap_alloc_new _ _
    have bb : Below w.heap.size w w0 := by rw [hw0]; exact below_new (below_new (Below.refl _ _) _) _
    have RX : Hid (w0.heap[g]? = some (cellRow k u (.slice A n c))) := by
      show _ = _
      rw [hw0, hg]
      rw [Below.heap_alloc _ _ _ (by simp only [World.size_alloc]; omega)]
      exact hat _ _ _ rfl
    have RP : Hid (w0.heap[g + 1]? = some (partCells p)) := by
      show _ = _
      rw [hw0, hg]
      skip
      exact hat _ _ _ (by simp only [World.size_alloc])
    replace RD := Lib.hid (RD.out.below bb)
    replace RK := Lib.hid (RK.out.below bb)
    replace HB := Lib.hid (below_then HB.out bb)
    clear bb hg hw0 hat
    go_enter Try.func6, Try.ntmps6
    go_upto_region 1 with fail
    rw [← HG.out]
    rw [show ((w.alloc (Obj.cells #[Value.int .i64 k, .int .i64 u.k, .int .i64 u.n, .string u.s, .slice A n c] 26)).alloc (Obj.cells #[Value.int .i64 p.v.k, .int .i64 p.v.n, .string p.v.s, .int .i64 p.d.d, .int .i64 p.d.s, .int .i64 p.i, .int .i64 p.t, .int .i64 p.a.d, .int .i64 p.a.s, .int .i64 p.j, .bool p.g] 32)) = w0 from HW0.out.symm]
    clear HW0
    obtain ⟨RX0, RX1, RX2, RX3, RX4⟩ := cell_row5 RX.out
    go_wp2_with fail
    refine (FW.out _).mono ?_
    rintro e v1 ⟨rfl, bb⟩
    replace RX := Lib.hid (row_below RX.out bb)
    replace RP := Lib.hid (row_below RP.out bb)
    replace RD := Lib.hid (RD.out.below bb)
    replace RK := Lib.hid (RK.out.below bb)
    replace HB := Lib.hid (below_then HB.out bb)
    clear bb
    clear RX0 RX1 RX2 RX3 RX4
    obtain ⟨RX0, RX1, RX2, RX3, RX4⟩ := cell_row5 RX.out
    go_wp2_with fail
    refine (CR1.out _ RD.out).mono ?_
    rintro e v2 ⟨rfl, bb⟩
    replace RX := Lib.hid (row_below RX.out bb)
    replace RP := Lib.hid (row_below RP.out bb)
    replace RD := Lib.hid (RD.out.below bb)
    replace RK := Lib.hid (RK.out.below bb)
    replace HB := Lib.hid (below_then HB.out bb)
    clear bb
    clear RX0 RX1 RX2 RX3 RX4
    obtain ⟨RP0, RP1, RP2, RP3, RP4, RP5, RP6, RP7, RP8, RP9, RP10⟩ := part_row RP.out
    go_wp2_with fail
    refine (CR2.out _).mono ?_
    rintro e v3 ⟨rfl, bb⟩
    replace RX := Lib.hid (row_below RX.out bb)
    replace RP := Lib.hid (row_below RP.out bb)
    replace RD := Lib.hid (RD.out.below bb)
    replace RK := Lib.hid (RK.out.below bb)
    replace HB := Lib.hid (below_then HB.out bb)
    clear bb
    clear RP0 RP1 RP2 RP3 RP4 RP5 RP6 RP7 RP8 RP9 RP10
    obtain ⟨RP0, RP1, RP2, RP3, RP4, RP5, RP6, RP7, RP8, RP9, RP10⟩ := part_row RP.out
    go_wp2_with fail
    refine (alive7_any _).mono ?_
    rintro e v4 ⟨rfl, bb⟩
    replace RX := Lib.hid (row_below RX.out bb)
    replace RP := Lib.hid (row_below RP.out bb)
    replace RD := Lib.hid (RD.out.below bb)
    replace RK := Lib.hid (RK.out.below bb)
    replace HB := Lib.hid (below_then HB.out bb)
    clear bb
    go_wp2_with fail
    go_ret
    exact ⟨rfl, HB.out⟩
  by_cases hb4 : 1048576 < p.d.s
  · have FW : Hid (∀ W : World, Calls Try.prog 15 #[cellV k u (.slice A n c)] W fun e w' => e = .returned (.bool true) ∧ Below W.heap.size W w') := by
      intro W
      have := refFew_any k u A n c W
      rwa [decide_eq_true (by omega)] at this
    have hm1 : ¬ (100 : Int) < (m : Int) := by omega
    clear hn hm
    obtain ⟨g, hg⟩ : ∃ g, g = w.heap.size := ⟨_, rfl⟩
    obtain ⟨w0, hw0⟩ : ∃ w1, w1 = ((w.alloc (cellRow k u (.slice A n c))).alloc (partCells p)) := ⟨_, rfl⟩
    have HW0 := Lib.hid hw0; have HG := Lib.hid hg
    have hat : ∀ (w : World) (o : Obj) (g : Nat), w.heap.size = g → (w.alloc o).heap[g]? = some o := fun w o g h => by subst h; exact heap_alloc_new _ _
    have bb : Below w.heap.size w w0 := by rw [hw0]; exact below_new (below_new (Below.refl _ _) _) _
    have RX : Hid (w0.heap[g]? = some (cellRow k u (.slice A n c))) := by
      show _ = _
      rw [hw0, hg]
      rw [Below.heap_alloc _ _ _ (by simp only [World.size_alloc]; omega)]
      exact hat _ _ _ rfl
    have RP : Hid (w0.heap[g + 1]? = some (partCells p)) := by
      show _ = _
      rw [hw0, hg]
      skip
      exact hat _ _ _ (by simp only [World.size_alloc])
    replace RD := Lib.hid (RD.out.below bb)
    replace RK := Lib.hid (RK.out.below bb)
    replace HB := Lib.hid (below_then HB.out bb)
    clear bb hg hw0 hat
    go_enter Try.func6, Try.ntmps6
    go_upto_region 1 with fail
    rw [← HG.out]
    rw [show ((w.alloc (Obj.cells #[Value.int .i64 k, .int .i64 u.k, .int .i64 u.n, .string u.s, .slice A n c] 26)).alloc (Obj.cells #[Value.int .i64 p.v.k, .int .i64 p.v.n, .string p.v.s, .int .i64 p.d.d, .int .i64 p.d.s, .int .i64 p.i, .int .i64 p.t, .int .i64 p.a.d, .int .i64 p.a.s, .int .i64 p.j, .bool p.g] 32)) = w0 from HW0.out.symm]
    clear HW0
    obtain ⟨RX0, RX1, RX2, RX3, RX4⟩ := cell_row5 RX.out
    go_wp2_with fail
    refine (FW.out _).mono ?_
    rintro e v1 ⟨rfl, bb⟩
    replace RX := Lib.hid (row_below RX.out bb)
    replace RP := Lib.hid (row_below RP.out bb)
    replace RD := Lib.hid (RD.out.below bb)
    replace RK := Lib.hid (RK.out.below bb)
    replace HB := Lib.hid (below_then HB.out bb)
    clear bb
    clear RX0 RX1 RX2 RX3 RX4
    obtain ⟨RX0, RX1, RX2, RX3, RX4⟩ := cell_row5 RX.out
    go_wp2_with fail
    refine (CR1.out _ RD.out).mono ?_
    rintro e v2 ⟨rfl, bb⟩
    replace RX := Lib.hid (row_below RX.out bb)
    replace RP := Lib.hid (row_below RP.out bb)
    replace RD := Lib.hid (RD.out.below bb)
    replace RK := Lib.hid (RK.out.below bb)
    replace HB := Lib.hid (below_then HB.out bb)
    clear bb
    clear RX0 RX1 RX2 RX3 RX4
    obtain ⟨RP0, RP1, RP2, RP3, RP4, RP5, RP6, RP7, RP8, RP9, RP10⟩ := part_row RP.out
    go_wp2_with fail
    refine (CR2.out _).mono ?_
    rintro e v3 ⟨rfl, bb⟩
    replace RX := Lib.hid (row_below RX.out bb)
    replace RP := Lib.hid (row_below RP.out bb)
    replace RD := Lib.hid (RD.out.below bb)
    replace RK := Lib.hid (RK.out.below bb)
    replace HB := Lib.hid (below_then HB.out bb)
    clear bb
    clear RP0 RP1 RP2 RP3 RP4 RP5 RP6 RP7 RP8 RP9 RP10
    obtain ⟨RP0, RP1, RP2, RP3, RP4, RP5, RP6, RP7, RP8, RP9, RP10⟩ := part_row RP.out
    go_wp2_with fail
    refine (alive7_any _).mono ?_
    rintro e v4 ⟨rfl, bb⟩
    replace RX := Lib.hid (row_below RX.out bb)
    replace RP := Lib.hid (row_below RP.out bb)
    replace RD := Lib.hid (RD.out.below bb)
    replace RK := Lib.hid (RK.out.below bb)
    replace HB := Lib.hid (below_then HB.out bb)
    clear bb
    go_wp2_with fail
    go_ret
    exact ⟨rfl, HB.out⟩
  have FW : Hid (∀ W : World, Calls Try.prog 15 #[cellV k u (.slice A n c)] W fun e w' => e = .returned (.bool true) ∧ Below W.heap.size W w') := by
    intro W
    have := refFew_any k u A n c W
    rwa [decide_eq_true (by omega)] at this
  have hm1 : ¬ (100 : Int) < (m : Int) := by omega
  obtain ⟨L, hL⟩ : ∃ L, Hid (writeL l p.v p.d kn = L) := ⟨_, rfl⟩
  obtain ⟨N, hN⟩ : ∃ N, Hid (L.length = N) := ⟨_, rfl⟩
  have hNf : Hid (N = (l.filter (keptW p.d kn)).length + 1) := by show _ = _; rw [← hN.out, ← hL.out]; exact write_len _ _ _ _
  have hRL : Hid (rightC k u L = true) := by show _ = _; rw [← hL.out]; exact write_right hr1.out hr2.out ⟨by omega, by omega⟩ ⟨by omega, by omega⟩
  have hIn : Hid (dotIn L p.d = true) := by show _ = _; rw [← hL.out]; exact write_has _ _ _ _
  have hKept : Hid (∀ q ∈ l, keptW p.d kn q = true → dotIn L q.d = true) := by intro q hq hk; rw [← hL.out]; exact write_keeps hq hk
  have hn6 : n ≤ 4294967000 := by omega
  have W1 : Hid (∀ W : World, RdP W A n c l → Rd W B m d (vals .i64 kn) → Calls Try.prog 20 #[cellV k u (.slice A n c), .agg #[.int .i64 p.v.k, .int .i64 p.v.n, .string p.v.s], .agg #[.int .i64 p.d.d, .int .i64 p.d.s], .slice B m d] W fun e w' => ∃ A' c', e = .returned (cellV k u (.slice A' N c')) ∧ RdP w' A' N c' L ∧ Below W.heap.size W w') := by
    intro W h1 h2
    have := write_any k u A n c l p.v p.d B m d kn W h1 (by omega) h2
    rw [hL.out, hN.out] at this
    exact this
  clear hn hm
  obtain ⟨g, hg⟩ : ∃ g, g = w.heap.size := ⟨_, rfl⟩
  obtain ⟨w0, hw0⟩ : ∃ w1, w1 = ((w.alloc (cellRow k u (.slice A n c))).alloc (partCells p)) := ⟨_, rfl⟩
  have HW0 := Lib.hid hw0; have HG := Lib.hid hg
  have hat : ∀ (w : World) (o : Obj) (g : Nat), w.heap.size = g → (w.alloc o).heap[g]? = some o := fun w o g h => by subst h; exact heap_alloc_new _ _
  have bb : Below w.heap.size w w0 := by rw [hw0]; exact below_new (below_new (Below.refl _ _) _) _
  have RX : Hid (w0.heap[g]? = some (cellRow k u (.slice A n c))) := by
    show _ = _
    rw [hw0, hg]
    rw [Below.heap_alloc _ _ _ (by simp only [World.size_alloc]; omega)]
    exact hat _ _ _ rfl
  have RP : Hid (w0.heap[g + 1]? = some (partCells p)) := by
    show _ = _
    rw [hw0, hg]
    skip
    exact hat _ _ _ (by simp only [World.size_alloc])
  replace RD := Lib.hid (RD.out.below bb)
  replace RK := Lib.hid (RK.out.below bb)
  replace HB := Lib.hid (below_then HB.out bb)
  clear bb hg hw0 hat
  go_enter Try.func6, Try.ntmps6
  go_upto_region 1 with fail
  rw [← HG.out]
  rw [show ((w.alloc (Obj.cells #[Value.int .i64 k, .int .i64 u.k, .int .i64 u.n, .string u.s, .slice A n c] 26)).alloc (Obj.cells #[Value.int .i64 p.v.k, .int .i64 p.v.n, .string p.v.s, .int .i64 p.d.d, .int .i64 p.d.s, .int .i64 p.i, .int .i64 p.t, .int .i64 p.a.d, .int .i64 p.a.s, .int .i64 p.j, .bool p.g] 32)) = w0 from HW0.out.symm]
  clear HW0
  obtain ⟨RX0, RX1, RX2, RX3, RX4⟩ := cell_row5 RX.out
  go_wp2_with fail
  refine (FW.out _).mono ?_
  rintro e v1 ⟨rfl, bb⟩
  replace RX := Lib.hid (row_below RX.out bb)
  replace RP := Lib.hid (row_below RP.out bb)
  replace RD := Lib.hid (RD.out.below bb)
  replace RK := Lib.hid (RK.out.below bb)
  replace HB := Lib.hid (below_then HB.out bb)
  clear bb
  clear RX0 RX1 RX2 RX3 RX4
  obtain ⟨RX0, RX1, RX2, RX3, RX4⟩ := cell_row5 RX.out
  go_wp2_with fail
  refine (CR1.out _ RD.out).mono ?_
  rintro e v2 ⟨rfl, bb⟩
  replace RX := Lib.hid (row_below RX.out bb)
  replace RP := Lib.hid (row_below RP.out bb)
  replace RD := Lib.hid (RD.out.below bb)
  replace RK := Lib.hid (RK.out.below bb)
  replace HB := Lib.hid (below_then HB.out bb)
  clear bb
  clear RX0 RX1 RX2 RX3 RX4
  obtain ⟨RP0, RP1, RP2, RP3, RP4, RP5, RP6, RP7, RP8, RP9, RP10⟩ := part_row RP.out
  go_wp2_with fail
  refine (CR2.out _).mono ?_
  rintro e v3 ⟨rfl, bb⟩
  replace RX := Lib.hid (row_below RX.out bb)
  replace RP := Lib.hid (row_below RP.out bb)
  replace RD := Lib.hid (RD.out.below bb)
  replace RK := Lib.hid (RK.out.below bb)
  replace HB := Lib.hid (below_then HB.out bb)
  clear bb
  clear RP0 RP1 RP2 RP3 RP4 RP5 RP6 RP7 RP8 RP9 RP10
  obtain ⟨RP0, RP1, RP2, RP3, RP4, RP5, RP6, RP7, RP8, RP9, RP10⟩ := part_row RP.out
  obtain ⟨RX0, RX1, RX2, RX3, RX4⟩ := cell_row5 RX.out
  go_wp2_with fail
  refine (W1.out _ RD.out RK.out).mono ?_
  rintro e v4 ⟨A1, d1, rfl, hrl, bb⟩
  replace RX := Lib.hid (row_below RX.out bb)
  replace RP := Lib.hid (row_below RP.out bb)
  replace RD := Lib.hid (RD.out.below bb)
  replace RK := Lib.hid (RK.out.below bb)
  replace HB := Lib.hid (below_then HB.out bb)
  clear bb
  have RL := Lib.hid hrl
  clear hrl
  clear RX0 RX1 RX2 RX3 RX4 RP0 RP1 RP2 RP3 RP4 RP5 RP6 RP7 RP8 RP9 RP10
  obtain ⟨v5, hw⟩ : ∃ w', w' = v4.alloc (cellRow k u (.slice A1 N d1)) := ⟨_, rfl⟩
  have RW : Hid (v5.heap[v4.heap.size]? = some (cellRow k u (.slice A1 N d1))) := by rw [hw]; exact heap_alloc_new _ _
  have bb : Below v4.heap.size v4 v5 := by rw [hw]; exact below_new (Below.refl _ _) _
  replace hw := Lib.hid hw
  replace RX := Lib.hid (row_below RX.out bb)
  replace RP := Lib.hid (row_below RP.out bb)
  replace RD := Lib.hid (RD.out.below bb)
  replace RK := Lib.hid (RK.out.below bb)
  replace RL := Lib.hid (RL.out.below bb)
  replace HB := Lib.hid (below_then HB.out bb)
  clear bb
  go_upto_region 4 with fail
  rw [show v4.alloc (Obj.cells #[Value.int .i64 k, .int .i64 u.k, .int .i64 u.n, .string u.s, .slice A1 N d1] 26) = v5 from hw.out.symm]
  clear hw
  generalize v4.heap.size = gRW at RW ⊢
  obtain ⟨RX0, RX1, RX2, RX3, RX4⟩ := cell_row5 RX.out
  clear CR1 CR2 W1 hb1 hb2 hb3 hb4 hr1 hr2
  go_wp2_with fail
  go_loopw [8, 65] (fun s i wr => ∃ j q : Nat, j ≤ n ∧ i = .int .i64 j ∧ s = .int .i64 q ∧ Hid (q = ((l.take j).filter (keptW p.d kn)).length) ∧ Hid (Below v5.heap.size v5 wr)) (fun _ i _ => n - (intOf i).toNat)
  case atStart => exact ⟨0, 0, Nat.zero_le _, rfl, rfl, by show _ = _; simp, Below.refl _ _⟩
  case round =>
    clear RX0 RX1 RX2 RX3 RX4
    obtain ⟨j, q, hj, rfl, rfl, hq, hbel⟩ := hrel
    replace RX := Lib.hid (row_below RX.out hbel.out); replace RP := Lib.hid (row_below RP.out hbel.out); replace RW := Lib.hid (row_below RW.out hbel.out)
    replace RK := Lib.hid (RK.out.below hbel.out); replace RL := Lib.hid (RL.out.below hbel.out)
    replace HB := Lib.hid (below_then HB.out hbel.out)
    by_cases hlt : j < n
    · obtain ⟨b, o, x, rfl, hb, hx, hld⟩ := RD.out.part hlt
      obtain ⟨e0, e1, e2, e3, e4, e5, e6, e7, e8, e9, e10⟩ := hld wr hbel.out
      have HX := Lib.hid hx
      have HBV := Lib.hid hbel.out
      have hq64 : Hid (q ≤ n) := by
        show _ ≤ _
        rw [hq.out]
        exact Nat.le_trans (List.length_filter_le _ _) (by rw [List.length_take]; omega)
      clear hx hld hbel
      obtain ⟨v41, hw⟩ : ∃ w', w' = wr.alloc (partCells x) := ⟨_, rfl⟩
      have RQ : Hid (v41.heap[wr.heap.size]? = some (partCells x)) := by rw [hw]; exact heap_alloc_new _ _
      have bb : Below wr.heap.size wr v41 := by rw [hw]; exact below_new (Below.refl _ _) _
      replace hw := Lib.hid hw
      replace RX := Lib.hid (row_below RX.out bb)
      replace RP := Lib.hid (row_below RP.out bb)
      replace RW := Lib.hid (row_below RW.out bb)
      replace RK := Lib.hid (RK.out.below bb)
      replace RL := Lib.hid (RL.out.below bb)
      replace HB := Lib.hid (below_then HB.out bb)
      replace HBV := Lib.hid (below_then HBV.out bb)
      clear bb
      go_upto_region 8 with fail
      rw [show wr.alloc (Obj.cells #[Value.int .i64 x.v.k, .int .i64 x.v.n, .string x.v.s, .int .i64 x.d.d, .int .i64 x.d.s, .int .i64 x.i, .int .i64 x.t, .int .i64 x.a.d, .int .i64 x.a.s, .int .i64 x.j, .bool x.g] 32) = v41 from hw.out.symm]
      clear hw
      generalize wr.heap.size = gRQ at RQ ⊢
      clear e0 e1 e2 e3 e4 e5 e6 e7 e8 e9 e10
      obtain ⟨r, hr⟩ : ∃ r, Hid (hasV kn x.d.d x.d.s = r) := ⟨_, rfl⟩
      have CH : Hid (∀ W : World, Rd W B m d (vals .i64 kn) → Calls Try.prog 25 #[.slice B m d, .agg #[.int .i64 x.d.d, .int .i64 x.d.s]] W fun e w' => e = .returned (.bool r) ∧ Below W.heap.size W w') := by
        intro W hW; rw [← hr.out]; exact refHas_any B m d kn x.d.d x.d.s W hW
      obtain ⟨e, he⟩ : ∃ e, Hid (decide (x.d = p.d) = e) := ⟨_, rfl⟩
      have EQ := fun W2 => run_equalIn_dot x.d.d x.d.s p.d.d p.d.s W2
      rw [show decide ((⟨x.d.d, x.d.s⟩ : D2) = ⟨p.d.d, p.d.s⟩) = e from he.out] at EQ
      have hKW : Hid (keptW p.d kn x = (!e && !r)) := by show _ = _; rw [keptW, he.out]; show (!e && !hasV kn x.d.d x.d.s) = _; rw [hr.out]
      have hst : Hid (((l.take (j + 1)).filter (keptW p.d kn)).length = q + (if keptW p.d kn x = true then 1 else 0)) := by
        show _ = _
        rw [filter_step HX.out, List.length_append, ← hq.out]
        split <;> rfl
      obtain ⟨RQ0, RQ1, RQ2, RQ3, RQ4, RQ5, RQ6, RQ7, RQ8, RQ9, RQ10⟩ := part_row RQ.out
      go_wp2_with fail
      refine (CH.out _ RK.out).mono ?_
      rintro e v42 ⟨rfl, bb⟩
      replace RX := Lib.hid (row_below RX.out bb)
      replace RP := Lib.hid (row_below RP.out bb)
      replace RW := Lib.hid (row_below RW.out bb)
      replace RQ := Lib.hid (row_below RQ.out bb)
      replace RK := Lib.hid (RK.out.below bb)
      replace RL := Lib.hid (RL.out.below bb)
      replace HB := Lib.hid (below_then HB.out bb)
      replace HBV := Lib.hid (below_then HBV.out bb)
      clear bb
      clear RQ0 RQ1 RQ2 RQ3 RQ4 RQ5 RQ6 RQ7 RQ8 RQ9 RQ10
      obtain ⟨RQ0, RQ1, RQ2, RQ3, RQ4, RQ5, RQ6, RQ7, RQ8, RQ9, RQ10⟩ := part_row RQ.out
      obtain ⟨RP0, RP1, RP2, RP3, RP4, RP5, RP6, RP7, RP8, RP9, RP10⟩ := part_row RP.out
      cases r with
      | true =>
        have hq2 : Hid (q = ((l.take (j + 1)).filter (keptW p.d kn)).length) := by show _ = _; rw [hst.out, hKW.out]; simp
        go_wp2_with fail
        exact ⟨⟨j + 1, q, by omega, by go_num, rfl, hq2, HBV⟩, by simp [intOf]; omega⟩
      | false =>
        cases e with
        | true =>
          have hq2 : Hid (q = ((l.take (j + 1)).filter (keptW p.d kn)).length) := by show _ = _; rw [hst.out, hKW.out]; simp
          go_wp2_with fail
          exact ⟨⟨j + 1, q, by omega, by go_num, rfl, hq2, HBV⟩, by simp [intOf]; omega⟩
        | false =>
          have hkx : keptW p.d kn x = true := by rw [hKW.out]; rfl
          have hq2 : Hid (q + 1 = ((l.take (j + 1)).filter (keptW p.d kn)).length) := by show _ = _; rw [hst.out, if_pos hkx]
          have CH2 : Hid (∀ W : World, RdP W A1 N d1 L → Calls Try.prog 26 #[cellV k u (.slice A1 N d1), .agg #[.int .i64 x.d.d, .int .i64 x.d.s]] W fun e w' => e = .returned (.bool true) ∧ Below W.heap.size W w') := by
            intro W hW
            have := refHas7_any k u A1 N d1 L x.d W hW
            rw [hKept.out x (List.mem_of_getElem? HX.out) hkx] at this
            exact this
          clear hkx
          have hqw : IntKind.i64.wrap ((q : Int) + 1) = (q : Int) + 1 := wrap_is (by have := hq64.out; omega)
          obtain ⟨RW0, RW1, RW2, RW3, RW4⟩ := cell_row5 RW.out
          go_wp2_with fail
          refine (CH2.out _ RL.out).mono ?_
          rintro e v43 ⟨rfl, bb⟩
          replace RX := Lib.hid (row_below RX.out bb)
          replace RP := Lib.hid (row_below RP.out bb)
          replace RW := Lib.hid (row_below RW.out bb)
          replace RQ := Lib.hid (row_below RQ.out bb)
          replace RK := Lib.hid (RK.out.below bb)
          replace RL := Lib.hid (RL.out.below bb)
          replace HB := Lib.hid (below_then HB.out bb)
          replace HBV := Lib.hid (below_then HBV.out bb)
          clear bb
          clear RW0 RW1 RW2 RW3 RW4
          go_wp2_with fail
          exact ⟨⟨j + 1, q + 1, by omega, by go_num, by go_num, hq2, HBV⟩, by simp [intOf]; omega⟩
    · obtain rfl : j = n := by omega
      have hqN : Hid (N = q + 1) := by
        show _ = _
        rw [hNf.out, hq.out, List.take_of_length_le (by rw [HLN.out]; exact Nat.le_refl _)]
      have hqw : IntKind.i64.wrap ((q : Int) + 1) = (q : Int) + 1 := wrap_is (by
        have h1 := hq.out
        have h2 := List.length_filter_le (keptW p.d kn) (l.take j)
        have h3 : (l.take j).length ≤ j := by rw [List.length_take]; omega
        omega)
      replace RD := Lib.hid (RD.out.below hbel.out)
      have hNq : ((N : Int) == (q : Int) + 1) = true := by have := hqN.out; simp [this]
      have hNz : (N : Int) = (q : Int) + 1 := by have := hqN.out; omega
      have CR : Hid (∀ W : World, RdP W A1 N d1 L → Calls Try.prog 17 #[cellV k u (.slice A1 N d1)] W fun e w' => e = .returned (.bool true) ∧ Below W.heap.size W w') := by
        intro W hW
        have := right7_any k u A1 N d1 L W hW
        rw [hRL.out] at this
        exact this
      have CH2 : Hid (∀ W : World, RdP W A1 N d1 L → Calls Try.prog 26 #[cellV k u (.slice A1 N d1), .agg #[.int .i64 p.d.d, .int .i64 p.d.s]] W fun e w' => e = .returned (.bool true) ∧ Below W.heap.size W w') := by
        intro W hW
        have := refHas7_any k u A1 N d1 L p.d W hW
        rw [hIn.out] at this
        exact this
      clear hbel hRL hIn hKept hNf hN hL
      go_wp2_with fail
      refine (alive7_any _).mono ?_
      rintro e v61 ⟨rfl, bb⟩
      replace RX := Lib.hid (row_below RX.out bb)
      replace RP := Lib.hid (row_below RP.out bb)
      replace RW := Lib.hid (row_below RW.out bb)
      replace RD := Lib.hid (RD.out.below bb)
      replace RK := Lib.hid (RK.out.below bb)
      replace RL := Lib.hid (RL.out.below bb)
      replace HB := Lib.hid (below_then HB.out bb)
      clear bb
      obtain ⟨RW0, RW1, RW2, RW3, RW4⟩ := cell_row5 RW.out
      go_wp2_with fail
      refine (CR.out _ RL.out).mono ?_
      rintro e v62 ⟨rfl, bb⟩
      replace RX := Lib.hid (row_below RX.out bb)
      replace RP := Lib.hid (row_below RP.out bb)
      replace RW := Lib.hid (row_below RW.out bb)
      replace RD := Lib.hid (RD.out.below bb)
      replace RK := Lib.hid (RK.out.below bb)
      replace RL := Lib.hid (RL.out.below bb)
      replace HB := Lib.hid (below_then HB.out bb)
      clear bb
      clear RW0 RW1 RW2 RW3 RW4
      obtain ⟨RW0, RW1, RW2, RW3, RW4⟩ := cell_row5 RW.out
      obtain ⟨RP0, RP1, RP2, RP3, RP4, RP5, RP6, RP7, RP8, RP9, RP10⟩ := part_row RP.out
      go_wp2_with fail
      refine (CH2.out _ RL.out).mono ?_
      rintro e v63 ⟨rfl, bb⟩
      replace RX := Lib.hid (row_below RX.out bb)
      replace RP := Lib.hid (row_below RP.out bb)
      replace RW := Lib.hid (row_below RW.out bb)
      replace RD := Lib.hid (RD.out.below bb)
      replace RK := Lib.hid (RK.out.below bb)
      replace RL := Lib.hid (RL.out.below bb)
      replace HB := Lib.hid (below_then HB.out bb)
      clear bb
      go_wp2_with fail
      go_ret
      exact ⟨rfl, HB.out⟩

set_option maxRecDepth 100000 in
theorem contract (H : Type) (enc : TypeId × Value → H) (W : World) (base : Nat) (args : Array Value) (ds gs : List (DataW H)) (before : List MemPlace)
    (hval : ∀ (j : Nat) t v, Try.f6.params[j]? = some t → args[j]? = some v → Value.okWide Try.prog W .any base t v)
    (hW : DataW.Whole enc Try.prog Try.f6.params.toList Rows.multiOverSpec.vars false W args.toList ds gs before) :
    Calls Try.prog 6 args W fun e W' => ∃ v, e = .returned v ∧ Rows.multiOverSpec.post enc Try.prog Try.f6 false true false false W args v W' := by
  have hlt : ∀ x ∈ before, x.block < W.heap.size := fun x hx => by simpa using hW.lt x hx
  refine law_step 4 Try.laid_ (by kernel_rfl) rfl Try.underlying4 rfl hW (fun xs hx => ?_) ?_
  · match xs, hx with
    | [d0, d1, d2], _ => rfl
  · obtain ⟨p, q, hA0, hV, rfl, _, _⟩ := hW
    have hA : DataW.TrodAll enc Try.prog W 0 (fun _ => true) true Try.f6.params.toList args.toList ds p := hA0
    rw [Try.params6] at hA hval
    obtain ⟨v0, vs0, d0, ds0, p0, q0, e0, rfl, rfl, h0, r0⟩ := trodAll_cons hA
    obtain ⟨v1, vs1, d1, ds1, p1, q1, e1, rfl, rfl, h1, r1⟩ := trodAll_cons r0
    obtain ⟨v2, vs2, d2, ds2, p2, q2, e2, rfl, rfl, h2, r2⟩ := trodAll_cons r1
    obtain ⟨rfl, rfl, rfl⟩ := trodAll_nil r2
    subst e2
    subst e1
    obtain rfl : args = #[v0, v1, v2] := by cases args; simp_all
    clear e0 hA0
    obtain ⟨k0, u0, A0, n0, c0, l, rfl, rd0, wk0, wu0, wl0⟩ := open_cell (hval 0 26 v0 rfl rfl) h0
    obtain ⟨p, rfl, wp1⟩ := open_part (hval 1 32 v1 rfl rfl) h1
    obtain ⟨A2, n2, c2, kn, rfl, rd2, wf2⟩ := open_vec (hval 2 34 v2 rfl rfl) h2 (fun x hx => hlt x (by simp [hx]))
    exact walk k0 u0 A0 n0 c0 l p A2 n2 c2 kn W rd0 rd2

set_option maxRecDepth 100000 in
theorem lifted (os : Os) (started : os.Started) (H : Type) (enc : TypeId × Value → H) :
    ReturnsInHanded {} Try.checked os 6 .any (Rows.multiOverSpec.pre6 enc Try.prog Try.f6 Rows.multiOverRow.domain false) (Rows.multiOverSpec.post enc Try.prog Try.f6 false true false false) := by
  refine returnsInHanded_of_change (C := Try.checked) Try.own_ started (by kernel_rfl) Try.func6
    (ChangeSpec.witness6 (enc := enc) (C := Try.checked) false ⟨#[], #[.agg #[.int .i64 0, .int .i64 0, .int .i64 0, .string ⟨#[]⟩, .slice none 0 0], .agg #[.int .i64 0, .int .i64 0, .string ⟨#[]⟩, .int .i64 0, .int .i64 0, .int .i64 0, .int .i64 0, .int .i64 0, .int .i64 0, .int .i64 0, .bool false], .slice none 0 0], []⟩ 8 (by kernel_rfl) (by kernel_rfl) (by kernel_rfl) (by kernel_rfl)) ?_
  intro W base args ds gs before hval hW _ _
  exact contract H enc W base args ds gs before hval hW

theorem holds : Rows.MultiOverSaid :=
  OpenClaim.holds_of_wide 6 Try.f6 rfl rfl rfl rfl rfl rfl rfl ⟨rfl, rfl, rfl, rfl, rfl⟩ rfl rfl rfl rfl rfl (by kernel_rfl) Try.func6 (by kernel_rfl)
    (of_decide_eq_true (by kernel_rfl)) (by unfold Func.isWrapper; first | (rw [if_pos (by decide +kernel)]; kernel_rfl) | (rw [if_neg (by decide +kernel)]; exact ⟨rfl, rfl⟩))
    (fun os started H enc _ => lifted os started H enc)
end Go.Proofs.Ytieaobeidlhefaa.multiOver
