/- What any two copies come to is what the document says. Of all cells, of all vectors. -/
import Derived.Test.YtieaobeidlhefaaRows
import Derived.Test.YtieaobeidlhefaaLaw
import Derived.Test.YtieaobeidlhefaaMulAlive
import Derived.Test.YtieaobeidlhefaaMbOpen
namespace Go.Proofs.Ytieaobeidlhefaa.multiJoins
open Go.ChangeShapes Go.WideShapes Go.ChangeAt Go.RowKit Go.ChangeMaps

set_option maxRecDepth 100000 in
set_option maxHeartbeats 12800000 in
theorem walk (k j : Int) (u v : V3) (A B E F : Option Addr) (n c m d p pc q qc : Nat) (la lb : List P11) (na nb : List Int) (w : World) (ha : RdP w A n c la) (hb : RdP w B m d lb) (hka : Rd w E p pc (vals .i64 na)) (hkb : Rd w F q qc (vals .i64 nb)) :
    Calls Try.prog 5 #[cellV k u (.slice A n c), cellV j v (.slice B m d), .agg #[.slice E p pc, .slice F q qc]] w fun e w' => e = .returned (.bool true) ∧ Below w.heap.size w w' := by
  have HB := Lib.hid (Below.refl w.heap.size w)
  have RA := Lib.hid ha; have RB := Lib.hid hb; have RE := Lib.hid hka; have RF := Lib.hid hkb
  clear ha hb hka hkb
  obtain ⟨r1, hr1⟩ : ∃ r, rightC k u la = r := ⟨_, rfl⟩
  have CR1 : Hid (∀ W : World, RdP W A n c la → Calls Try.prog 17 #[cellV k u (.slice A n c)] W fun e w' => e = .returned (.bool r1) ∧ Below W.heap.size W w') := by
    intro W hW; rw [← hr1]; exact right7_any k u A n c la W hW
  obtain ⟨r2, hr2⟩ : ∃ r, rightC j v lb = r := ⟨_, rfl⟩
  have CR2 : Hid (∀ W : World, RdP W B m d lb → Calls Try.prog 17 #[cellV j v (.slice B m d)] W fun e w' => e = .returned (.bool r2) ∧ Below W.heap.size W w') := by
    intro W hW; rw [← hr2]; exact right7_any j v B m d lb W hW
  clear hr1 hr2
  by_cases hn : n ≤ 60
  rotate_left
  · have FW1 : Hid (∀ W : World, Calls Try.prog 15 #[cellV k u (.slice A n c)] W fun e w' => e = .returned (.bool false) ∧ Below W.heap.size W w') := by
      intro W
      have := refFew_any k u A n c W
      rwa [decide_eq_false (by omega)] at this
    clear hn
    obtain ⟨g, hg⟩ : ∃ g, g = w.heap.size := ⟨_, rfl⟩
    obtain ⟨w0, hw0⟩ : ∃ w1, w1 = (((w.alloc (cellRow k u (.slice A n c))).alloc (cellRow j v (.slice B m d))).alloc (.cells #[.slice E p pc, .slice F q qc] 38)) := ⟨_, rfl⟩
    have HW0 := Lib.hid hw0; have HG := Lib.hid hg
    have hat : ∀ (w : World) (o : Obj) (g : Nat), w.heap.size = g → (w.alloc o).heap[g]? = some o := fun w o g h => by subst h; exact heap_alloc_new _ _
    have bb : Below w.heap.size w w0 := by rw [hw0]; exact below_new (below_new (below_new (Below.refl _ _) _) _) _
    have RX : Hid (w0.heap[g]? = some (cellRow k u (.slice A n c))) := by
      show _ = _
      rw [hw0, hg]
      rw [Below.heap_alloc _ _ _ (by simp only [World.size_alloc]; omega), Below.heap_alloc _ _ _ (by simp only [World.size_alloc]; omega)]
      exact hat _ _ _ rfl
    have RY : Hid (w0.heap[g + 1]? = some (cellRow j v (.slice B m d))) := by
      show _ = _
      rw [hw0, hg]
      rw [Below.heap_alloc _ _ _ (by simp only [World.size_alloc]; omega)]
      exact hat _ _ _ (by simp only [World.size_alloc])
    have RZ : Hid (w0.heap[g + 2]? = some (.cells #[.slice E p pc, .slice F q qc] 38)) := by
      show _ = _
      rw [hw0, hg]
      skip
      exact hat _ _ _ (by simp only [World.size_alloc])
    replace RA := Lib.hid (RA.out.below bb)
    replace RB := Lib.hid (RB.out.below bb)
    replace RE := Lib.hid (RE.out.below bb)
    replace RF := Lib.hid (RF.out.below bb)
    replace HB := Lib.hid (below_then HB.out bb)
    clear bb hg hw0 hat
    go_enter Try.func5, Try.ntmps5
    go_upto_region 1 with fail
    rw [← HG.out]
    rw [show (((w.alloc (Obj.cells #[Value.int .i64 k, .int .i64 u.k, .int .i64 u.n, .string u.s, .slice A n c] 26)).alloc (Obj.cells #[Value.int .i64 j, .int .i64 v.k, .int .i64 v.n, .string v.s, .slice B m d] 26)).alloc (Obj.cells #[Value.slice E p pc, .slice F q qc] 38)) = w0 from HW0.out.symm]
    clear HW0
    obtain ⟨RX0, RX1, RX2, RX3, RX4⟩ := cell_row5 RX.out
    go_wp2_with fail
    refine (FW1.out _).mono ?_
    rintro e v1 ⟨rfl, bb⟩
    replace RX := Lib.hid (row_below RX.out bb)
    replace RY := Lib.hid (row_below RY.out bb)
    replace RZ := Lib.hid (row_below RZ.out bb)
    replace RA := Lib.hid (RA.out.below bb)
    replace RB := Lib.hid (RB.out.below bb)
    replace RE := Lib.hid (RE.out.below bb)
    replace RF := Lib.hid (RF.out.below bb)
    replace HB := Lib.hid (below_then HB.out bb)
    clear bb
    clear RX0 RX1 RX2 RX3 RX4
    go_wp2_with fail
    refine (alive7_any _).mono ?_
    rintro e v2 ⟨rfl, bb⟩
    replace RX := Lib.hid (row_below RX.out bb)
    replace RY := Lib.hid (row_below RY.out bb)
    replace RZ := Lib.hid (row_below RZ.out bb)
    replace RA := Lib.hid (RA.out.below bb)
    replace RB := Lib.hid (RB.out.below bb)
    replace RE := Lib.hid (RE.out.below bb)
    replace RF := Lib.hid (RF.out.below bb)
    replace HB := Lib.hid (below_then HB.out bb)
    clear bb
    go_wp2_with fail
    go_ret
    exact ⟨rfl, HB.out⟩
  by_cases hm : m ≤ 60
  rotate_left
  · have FW1 : Hid (∀ W : World, Calls Try.prog 15 #[cellV k u (.slice A n c)] W fun e w' => e = .returned (.bool true) ∧ Below W.heap.size W w') := by
      intro W
      have := refFew_any k u A n c W
      rwa [decide_eq_true (by omega)] at this
    have FW2 : Hid (∀ W : World, Calls Try.prog 15 #[cellV j v (.slice B m d)] W fun e w' => e = .returned (.bool false) ∧ Below W.heap.size W w') := by
      intro W
      have := refFew_any j v B m d W
      rwa [decide_eq_false (by omega)] at this
    clear hn hm
    obtain ⟨g, hg⟩ : ∃ g, g = w.heap.size := ⟨_, rfl⟩
    obtain ⟨w0, hw0⟩ : ∃ w1, w1 = (((w.alloc (cellRow k u (.slice A n c))).alloc (cellRow j v (.slice B m d))).alloc (.cells #[.slice E p pc, .slice F q qc] 38)) := ⟨_, rfl⟩
    have HW0 := Lib.hid hw0; have HG := Lib.hid hg
    have hat : ∀ (w : World) (o : Obj) (g : Nat), w.heap.size = g → (w.alloc o).heap[g]? = some o := fun w o g h => by subst h; exact heap_alloc_new _ _
    have bb : Below w.heap.size w w0 := by rw [hw0]; exact below_new (below_new (below_new (Below.refl _ _) _) _) _
    have RX : Hid (w0.heap[g]? = some (cellRow k u (.slice A n c))) := by
      show _ = _
      rw [hw0, hg]
      rw [Below.heap_alloc _ _ _ (by simp only [World.size_alloc]; omega), Below.heap_alloc _ _ _ (by simp only [World.size_alloc]; omega)]
      exact hat _ _ _ rfl
    have RY : Hid (w0.heap[g + 1]? = some (cellRow j v (.slice B m d))) := by
      show _ = _
      rw [hw0, hg]
      rw [Below.heap_alloc _ _ _ (by simp only [World.size_alloc]; omega)]
      exact hat _ _ _ (by simp only [World.size_alloc])
    have RZ : Hid (w0.heap[g + 2]? = some (.cells #[.slice E p pc, .slice F q qc] 38)) := by
      show _ = _
      rw [hw0, hg]
      skip
      exact hat _ _ _ (by simp only [World.size_alloc])
    replace RA := Lib.hid (RA.out.below bb)
    replace RB := Lib.hid (RB.out.below bb)
    replace RE := Lib.hid (RE.out.below bb)
    replace RF := Lib.hid (RF.out.below bb)
    replace HB := Lib.hid (below_then HB.out bb)
    clear bb hg hw0 hat
    go_enter Try.func5, Try.ntmps5
    go_upto_region 1 with fail
    rw [← HG.out]
    rw [show (((w.alloc (Obj.cells #[Value.int .i64 k, .int .i64 u.k, .int .i64 u.n, .string u.s, .slice A n c] 26)).alloc (Obj.cells #[Value.int .i64 j, .int .i64 v.k, .int .i64 v.n, .string v.s, .slice B m d] 26)).alloc (Obj.cells #[Value.slice E p pc, .slice F q qc] 38)) = w0 from HW0.out.symm]
    clear HW0
    obtain ⟨RX0, RX1, RX2, RX3, RX4⟩ := cell_row5 RX.out
    go_wp2_with fail
    refine (FW1.out _).mono ?_
    rintro e v1 ⟨rfl, bb⟩
    replace RX := Lib.hid (row_below RX.out bb)
    replace RY := Lib.hid (row_below RY.out bb)
    replace RZ := Lib.hid (row_below RZ.out bb)
    replace RA := Lib.hid (RA.out.below bb)
    replace RB := Lib.hid (RB.out.below bb)
    replace RE := Lib.hid (RE.out.below bb)
    replace RF := Lib.hid (RF.out.below bb)
    replace HB := Lib.hid (below_then HB.out bb)
    clear bb
    clear RX0 RX1 RX2 RX3 RX4
    obtain ⟨RY0, RY1, RY2, RY3, RY4⟩ := cell_row5 RY.out
    go_wp2_with fail
    refine (FW2.out _).mono ?_
    rintro e v2 ⟨rfl, bb⟩
    replace RX := Lib.hid (row_below RX.out bb)
    replace RY := Lib.hid (row_below RY.out bb)
    replace RZ := Lib.hid (row_below RZ.out bb)
    replace RA := Lib.hid (RA.out.below bb)
    replace RB := Lib.hid (RB.out.below bb)
    replace RE := Lib.hid (RE.out.below bb)
    replace RF := Lib.hid (RF.out.below bb)
    replace HB := Lib.hid (below_then HB.out bb)
    clear bb
    clear RY0 RY1 RY2 RY3 RY4
    go_wp2_with fail
    refine (alive7_any _).mono ?_
    rintro e v3 ⟨rfl, bb⟩
    replace RX := Lib.hid (row_below RX.out bb)
    replace RY := Lib.hid (row_below RY.out bb)
    replace RZ := Lib.hid (row_below RZ.out bb)
    replace RA := Lib.hid (RA.out.below bb)
    replace RB := Lib.hid (RB.out.below bb)
    replace RE := Lib.hid (RE.out.below bb)
    replace RF := Lib.hid (RF.out.below bb)
    replace HB := Lib.hid (below_then HB.out bb)
    clear bb
    go_wp2_with fail
    go_ret
    exact ⟨rfl, HB.out⟩
  by_cases hp : p ≤ 100
  rotate_left
  · have FW1 : Hid (∀ W : World, Calls Try.prog 15 #[cellV k u (.slice A n c)] W fun e w' => e = .returned (.bool true) ∧ Below W.heap.size W w') := by
      intro W
      have := refFew_any k u A n c W
      rwa [decide_eq_true (by omega)] at this
    have FW2 : Hid (∀ W : World, Calls Try.prog 15 #[cellV j v (.slice B m d)] W fun e w' => e = .returned (.bool true) ∧ Below W.heap.size W w') := by
      intro W
      have := refFew_any j v B m d W
      rwa [decide_eq_true (by omega)] at this
    have hp1 : (100 : Int) < (p : Int) := by omega
    clear hn hm hp
    obtain ⟨g, hg⟩ : ∃ g, g = w.heap.size := ⟨_, rfl⟩
    obtain ⟨w0, hw0⟩ : ∃ w1, w1 = (((w.alloc (cellRow k u (.slice A n c))).alloc (cellRow j v (.slice B m d))).alloc (.cells #[.slice E p pc, .slice F q qc] 38)) := ⟨_, rfl⟩
    have HW0 := Lib.hid hw0; have HG := Lib.hid hg
    have hat : ∀ (w : World) (o : Obj) (g : Nat), w.heap.size = g → (w.alloc o).heap[g]? = some o := fun w o g h => by subst h; exact heap_alloc_new _ _
    have bb : Below w.heap.size w w0 := by rw [hw0]; exact below_new (below_new (below_new (Below.refl _ _) _) _) _
    have RX : Hid (w0.heap[g]? = some (cellRow k u (.slice A n c))) := by
      show _ = _
      rw [hw0, hg]
      rw [Below.heap_alloc _ _ _ (by simp only [World.size_alloc]; omega), Below.heap_alloc _ _ _ (by simp only [World.size_alloc]; omega)]
      exact hat _ _ _ rfl
    have RY : Hid (w0.heap[g + 1]? = some (cellRow j v (.slice B m d))) := by
      show _ = _
      rw [hw0, hg]
      rw [Below.heap_alloc _ _ _ (by simp only [World.size_alloc]; omega)]
      exact hat _ _ _ (by simp only [World.size_alloc])
    have RZ : Hid (w0.heap[g + 2]? = some (.cells #[.slice E p pc, .slice F q qc] 38)) := by
      show _ = _
      rw [hw0, hg]
      skip
      exact hat _ _ _ (by simp only [World.size_alloc])
    replace RA := Lib.hid (RA.out.below bb)
    replace RB := Lib.hid (RB.out.below bb)
    replace RE := Lib.hid (RE.out.below bb)
    replace RF := Lib.hid (RF.out.below bb)
    replace HB := Lib.hid (below_then HB.out bb)
    clear bb hg hw0 hat
    go_enter Try.func5, Try.ntmps5
    go_upto_region 1 with fail
    rw [← HG.out]
    rw [show (((w.alloc (Obj.cells #[Value.int .i64 k, .int .i64 u.k, .int .i64 u.n, .string u.s, .slice A n c] 26)).alloc (Obj.cells #[Value.int .i64 j, .int .i64 v.k, .int .i64 v.n, .string v.s, .slice B m d] 26)).alloc (Obj.cells #[Value.slice E p pc, .slice F q qc] 38)) = w0 from HW0.out.symm]
    clear HW0
    obtain ⟨RX0, RX1, RX2, RX3, RX4⟩ := cell_row5 RX.out
    go_wp2_with fail
    refine (FW1.out _).mono ?_
    rintro e v1 ⟨rfl, bb⟩
    replace RX := Lib.hid (row_below RX.out bb)
    replace RY := Lib.hid (row_below RY.out bb)
    replace RZ := Lib.hid (row_below RZ.out bb)
    replace RA := Lib.hid (RA.out.below bb)
    replace RB := Lib.hid (RB.out.below bb)
    replace RE := Lib.hid (RE.out.below bb)
    replace RF := Lib.hid (RF.out.below bb)
    replace HB := Lib.hid (below_then HB.out bb)
    clear bb
    clear RX0 RX1 RX2 RX3 RX4
    obtain ⟨RY0, RY1, RY2, RY3, RY4⟩ := cell_row5 RY.out
    go_wp2_with fail
    refine (FW2.out _).mono ?_
    rintro e v2 ⟨rfl, bb⟩
    replace RX := Lib.hid (row_below RX.out bb)
    replace RY := Lib.hid (row_below RY.out bb)
    replace RZ := Lib.hid (row_below RZ.out bb)
    replace RA := Lib.hid (RA.out.below bb)
    replace RB := Lib.hid (RB.out.below bb)
    replace RE := Lib.hid (RE.out.below bb)
    replace RF := Lib.hid (RF.out.below bb)
    replace HB := Lib.hid (below_then HB.out bb)
    clear bb
    clear RY0 RY1 RY2 RY3 RY4
    have RZ0 := cell_row RZ.out 0
    have RZ1 := cell_row RZ.out 1
    simp only [List.getElem?_toArray, List.getElem?_cons_zero, List.getElem?_cons_succ] at RZ0 RZ1
    go_wp2_with fail
    refine (alive7_any _).mono ?_
    rintro e v3 ⟨rfl, bb⟩
    replace RX := Lib.hid (row_below RX.out bb)
    replace RY := Lib.hid (row_below RY.out bb)
    replace RZ := Lib.hid (row_below RZ.out bb)
    replace RA := Lib.hid (RA.out.below bb)
    replace RB := Lib.hid (RB.out.below bb)
    replace RE := Lib.hid (RE.out.below bb)
    replace RF := Lib.hid (RF.out.below bb)
    replace HB := Lib.hid (below_then HB.out bb)
    clear bb
    go_wp2_with fail
    go_ret
    exact ⟨rfl, HB.out⟩
  by_cases hq : q ≤ 100
  rotate_left
  · have FW1 : Hid (∀ W : World, Calls Try.prog 15 #[cellV k u (.slice A n c)] W fun e w' => e = .returned (.bool true) ∧ Below W.heap.size W w') := by
      intro W
      have := refFew_any k u A n c W
      rwa [decide_eq_true (by omega)] at this
    have FW2 : Hid (∀ W : World, Calls Try.prog 15 #[cellV j v (.slice B m d)] W fun e w' => e = .returned (.bool true) ∧ Below W.heap.size W w') := by
      intro W
      have := refFew_any j v B m d W
      rwa [decide_eq_true (by omega)] at this
    have hp1 : ¬ (100 : Int) < (p : Int) := by omega
    have hq1 : (100 : Int) < (q : Int) := by omega
    clear hn hm hp hq
    obtain ⟨g, hg⟩ : ∃ g, g = w.heap.size := ⟨_, rfl⟩
    obtain ⟨w0, hw0⟩ : ∃ w1, w1 = (((w.alloc (cellRow k u (.slice A n c))).alloc (cellRow j v (.slice B m d))).alloc (.cells #[.slice E p pc, .slice F q qc] 38)) := ⟨_, rfl⟩
    have HW0 := Lib.hid hw0; have HG := Lib.hid hg
    have hat : ∀ (w : World) (o : Obj) (g : Nat), w.heap.size = g → (w.alloc o).heap[g]? = some o := fun w o g h => by subst h; exact heap_alloc_new _ _
    have bb : Below w.heap.size w w0 := by rw [hw0]; exact below_new (below_new (below_new (Below.refl _ _) _) _) _
    have RX : Hid (w0.heap[g]? = some (cellRow k u (.slice A n c))) := by
      show _ = _
      rw [hw0, hg]
      rw [Below.heap_alloc _ _ _ (by simp only [World.size_alloc]; omega), Below.heap_alloc _ _ _ (by simp only [World.size_alloc]; omega)]
      exact hat _ _ _ rfl
    have RY : Hid (w0.heap[g + 1]? = some (cellRow j v (.slice B m d))) := by
      show _ = _
      rw [hw0, hg]
      rw [Below.heap_alloc _ _ _ (by simp only [World.size_alloc]; omega)]
      exact hat _ _ _ (by simp only [World.size_alloc])
    have RZ : Hid (w0.heap[g + 2]? = some (.cells #[.slice E p pc, .slice F q qc] 38)) := by
      show _ = _
      rw [hw0, hg]
      skip
      exact hat _ _ _ (by simp only [World.size_alloc])
    replace RA := Lib.hid (RA.out.below bb)
    replace RB := Lib.hid (RB.out.below bb)
    replace RE := Lib.hid (RE.out.below bb)
    replace RF := Lib.hid (RF.out.below bb)
    replace HB := Lib.hid (below_then HB.out bb)
    clear bb hg hw0 hat
    go_enter Try.func5, Try.ntmps5
    go_upto_region 1 with fail
    rw [← HG.out]
    rw [show (((w.alloc (Obj.cells #[Value.int .i64 k, .int .i64 u.k, .int .i64 u.n, .string u.s, .slice A n c] 26)).alloc (Obj.cells #[Value.int .i64 j, .int .i64 v.k, .int .i64 v.n, .string v.s, .slice B m d] 26)).alloc (Obj.cells #[Value.slice E p pc, .slice F q qc] 38)) = w0 from HW0.out.symm]
    clear HW0
    obtain ⟨RX0, RX1, RX2, RX3, RX4⟩ := cell_row5 RX.out
    go_wp2_with fail
    refine (FW1.out _).mono ?_
    rintro e v1 ⟨rfl, bb⟩
    replace RX := Lib.hid (row_below RX.out bb)
    replace RY := Lib.hid (row_below RY.out bb)
    replace RZ := Lib.hid (row_below RZ.out bb)
    replace RA := Lib.hid (RA.out.below bb)
    replace RB := Lib.hid (RB.out.below bb)
    replace RE := Lib.hid (RE.out.below bb)
    replace RF := Lib.hid (RF.out.below bb)
    replace HB := Lib.hid (below_then HB.out bb)
    clear bb
    clear RX0 RX1 RX2 RX3 RX4
    obtain ⟨RY0, RY1, RY2, RY3, RY4⟩ := cell_row5 RY.out
    go_wp2_with fail
    refine (FW2.out _).mono ?_
    rintro e v2 ⟨rfl, bb⟩
    replace RX := Lib.hid (row_below RX.out bb)
    replace RY := Lib.hid (row_below RY.out bb)
    replace RZ := Lib.hid (row_below RZ.out bb)
    replace RA := Lib.hid (RA.out.below bb)
    replace RB := Lib.hid (RB.out.below bb)
    replace RE := Lib.hid (RE.out.below bb)
    replace RF := Lib.hid (RF.out.below bb)
    replace HB := Lib.hid (below_then HB.out bb)
    clear bb
    clear RY0 RY1 RY2 RY3 RY4
    have RZ0 := cell_row RZ.out 0
    have RZ1 := cell_row RZ.out 1
    simp only [List.getElem?_toArray, List.getElem?_cons_zero, List.getElem?_cons_succ] at RZ0 RZ1
    go_wp2_with fail
    refine (alive7_any _).mono ?_
    rintro e v3 ⟨rfl, bb⟩
    replace RX := Lib.hid (row_below RX.out bb)
    replace RY := Lib.hid (row_below RY.out bb)
    replace RZ := Lib.hid (row_below RZ.out bb)
    replace RA := Lib.hid (RA.out.below bb)
    replace RB := Lib.hid (RB.out.below bb)
    replace RE := Lib.hid (RE.out.below bb)
    replace RF := Lib.hid (RF.out.below bb)
    replace HB := Lib.hid (below_then HB.out bb)
    clear bb
    go_wp2_with fail
    go_ret
    exact ⟨rfl, HB.out⟩
  cases r1 with
  | false =>
    have FW1 : Hid (∀ W : World, Calls Try.prog 15 #[cellV k u (.slice A n c)] W fun e w' => e = .returned (.bool true) ∧ Below W.heap.size W w') := by
      intro W
      have := refFew_any k u A n c W
      rwa [decide_eq_true (by omega)] at this
    have FW2 : Hid (∀ W : World, Calls Try.prog 15 #[cellV j v (.slice B m d)] W fun e w' => e = .returned (.bool true) ∧ Below W.heap.size W w') := by
      intro W
      have := refFew_any j v B m d W
      rwa [decide_eq_true (by omega)] at this
    have hp1 : ¬ (100 : Int) < (p : Int) := by omega
    have hq1 : ¬ (100 : Int) < (q : Int) := by omega
    clear hn hm hp hq
    obtain ⟨g, hg⟩ : ∃ g, g = w.heap.size := ⟨_, rfl⟩
    obtain ⟨w0, hw0⟩ : ∃ w1, w1 = (((w.alloc (cellRow k u (.slice A n c))).alloc (cellRow j v (.slice B m d))).alloc (.cells #[.slice E p pc, .slice F q qc] 38)) := ⟨_, rfl⟩
    have HW0 := Lib.hid hw0; have HG := Lib.hid hg
    have hat : ∀ (w : World) (o : Obj) (g : Nat), w.heap.size = g → (w.alloc o).heap[g]? = some o := fun w o g h => by subst h; exact heap_alloc_new _ _
    have bb : Below w.heap.size w w0 := by rw [hw0]; exact below_new (below_new (below_new (Below.refl _ _) _) _) _
    have RX : Hid (w0.heap[g]? = some (cellRow k u (.slice A n c))) := by
      show _ = _
      rw [hw0, hg]
      rw [Below.heap_alloc _ _ _ (by simp only [World.size_alloc]; omega), Below.heap_alloc _ _ _ (by simp only [World.size_alloc]; omega)]
      exact hat _ _ _ rfl
    have RY : Hid (w0.heap[g + 1]? = some (cellRow j v (.slice B m d))) := by
      show _ = _
      rw [hw0, hg]
      rw [Below.heap_alloc _ _ _ (by simp only [World.size_alloc]; omega)]
      exact hat _ _ _ (by simp only [World.size_alloc])
    have RZ : Hid (w0.heap[g + 2]? = some (.cells #[.slice E p pc, .slice F q qc] 38)) := by
      show _ = _
      rw [hw0, hg]
      skip
      exact hat _ _ _ (by simp only [World.size_alloc])
    replace RA := Lib.hid (RA.out.below bb)
    replace RB := Lib.hid (RB.out.below bb)
    replace RE := Lib.hid (RE.out.below bb)
    replace RF := Lib.hid (RF.out.below bb)
    replace HB := Lib.hid (below_then HB.out bb)
    clear bb hg hw0 hat
    go_enter Try.func5, Try.ntmps5
    go_upto_region 1 with fail
    rw [← HG.out]
    rw [show (((w.alloc (Obj.cells #[Value.int .i64 k, .int .i64 u.k, .int .i64 u.n, .string u.s, .slice A n c] 26)).alloc (Obj.cells #[Value.int .i64 j, .int .i64 v.k, .int .i64 v.n, .string v.s, .slice B m d] 26)).alloc (Obj.cells #[Value.slice E p pc, .slice F q qc] 38)) = w0 from HW0.out.symm]
    clear HW0
    obtain ⟨RX0, RX1, RX2, RX3, RX4⟩ := cell_row5 RX.out
    go_wp2_with fail
    refine (FW1.out _).mono ?_
    rintro e v1 ⟨rfl, bb⟩
    replace RX := Lib.hid (row_below RX.out bb)
    replace RY := Lib.hid (row_below RY.out bb)
    replace RZ := Lib.hid (row_below RZ.out bb)
    replace RA := Lib.hid (RA.out.below bb)
    replace RB := Lib.hid (RB.out.below bb)
    replace RE := Lib.hid (RE.out.below bb)
    replace RF := Lib.hid (RF.out.below bb)
    replace HB := Lib.hid (below_then HB.out bb)
    clear bb
    clear RX0 RX1 RX2 RX3 RX4
    obtain ⟨RY0, RY1, RY2, RY3, RY4⟩ := cell_row5 RY.out
    go_wp2_with fail
    refine (FW2.out _).mono ?_
    rintro e v2 ⟨rfl, bb⟩
    replace RX := Lib.hid (row_below RX.out bb)
    replace RY := Lib.hid (row_below RY.out bb)
    replace RZ := Lib.hid (row_below RZ.out bb)
    replace RA := Lib.hid (RA.out.below bb)
    replace RB := Lib.hid (RB.out.below bb)
    replace RE := Lib.hid (RE.out.below bb)
    replace RF := Lib.hid (RF.out.below bb)
    replace HB := Lib.hid (below_then HB.out bb)
    clear bb
    clear RY0 RY1 RY2 RY3 RY4
    have RZ0 := cell_row RZ.out 0
    have RZ1 := cell_row RZ.out 1
    simp only [List.getElem?_toArray, List.getElem?_cons_zero, List.getElem?_cons_succ] at RZ0 RZ1
    obtain ⟨RX0, RX1, RX2, RX3, RX4⟩ := cell_row5 RX.out
    go_wp2_with fail
    refine (CR1.out _ RA.out).mono ?_
    rintro e v3 ⟨rfl, bb⟩
    replace RX := Lib.hid (row_below RX.out bb)
    replace RY := Lib.hid (row_below RY.out bb)
    replace RZ := Lib.hid (row_below RZ.out bb)
    replace RA := Lib.hid (RA.out.below bb)
    replace RB := Lib.hid (RB.out.below bb)
    replace RE := Lib.hid (RE.out.below bb)
    replace RF := Lib.hid (RF.out.below bb)
    replace HB := Lib.hid (below_then HB.out bb)
    clear bb
    clear RX0 RX1 RX2 RX3 RX4
    clear RZ0 RZ1
    go_wp2_with fail
    refine (alive7_any _).mono ?_
    rintro e v4 ⟨rfl, bb⟩
    replace RX := Lib.hid (row_below RX.out bb)
    replace RY := Lib.hid (row_below RY.out bb)
    replace RZ := Lib.hid (row_below RZ.out bb)
    replace RA := Lib.hid (RA.out.below bb)
    replace RB := Lib.hid (RB.out.below bb)
    replace RE := Lib.hid (RE.out.below bb)
    replace RF := Lib.hid (RF.out.below bb)
    replace HB := Lib.hid (below_then HB.out bb)
    clear bb
    go_wp2_with fail
    go_ret
    exact ⟨rfl, HB.out⟩
  | true =>
  cases r2 with
  | false =>
    have FW1 : Hid (∀ W : World, Calls Try.prog 15 #[cellV k u (.slice A n c)] W fun e w' => e = .returned (.bool true) ∧ Below W.heap.size W w') := by
      intro W
      have := refFew_any k u A n c W
      rwa [decide_eq_true (by omega)] at this
    have FW2 : Hid (∀ W : World, Calls Try.prog 15 #[cellV j v (.slice B m d)] W fun e w' => e = .returned (.bool true) ∧ Below W.heap.size W w') := by
      intro W
      have := refFew_any j v B m d W
      rwa [decide_eq_true (by omega)] at this
    have hp1 : ¬ (100 : Int) < (p : Int) := by omega
    have hq1 : ¬ (100 : Int) < (q : Int) := by omega
    clear hn hm hp hq
    obtain ⟨g, hg⟩ : ∃ g, g = w.heap.size := ⟨_, rfl⟩
    obtain ⟨w0, hw0⟩ : ∃ w1, w1 = (((w.alloc (cellRow k u (.slice A n c))).alloc (cellRow j v (.slice B m d))).alloc (.cells #[.slice E p pc, .slice F q qc] 38)) := ⟨_, rfl⟩
    have HW0 := Lib.hid hw0; have HG := Lib.hid hg
    have hat : ∀ (w : World) (o : Obj) (g : Nat), w.heap.size = g → (w.alloc o).heap[g]? = some o := fun w o g h => by subst h; exact heap_alloc_new _ _
    have bb : Below w.heap.size w w0 := by rw [hw0]; exact below_new (below_new (below_new (Below.refl _ _) _) _) _
    have RX : Hid (w0.heap[g]? = some (cellRow k u (.slice A n c))) := by
      show _ = _
      rw [hw0, hg]
      rw [Below.heap_alloc _ _ _ (by simp only [World.size_alloc]; omega), Below.heap_alloc _ _ _ (by simp only [World.size_alloc]; omega)]
      exact hat _ _ _ rfl
    have RY : Hid (w0.heap[g + 1]? = some (cellRow j v (.slice B m d))) := by
      show _ = _
      rw [hw0, hg]
      rw [Below.heap_alloc _ _ _ (by simp only [World.size_alloc]; omega)]
      exact hat _ _ _ (by simp only [World.size_alloc])
    have RZ : Hid (w0.heap[g + 2]? = some (.cells #[.slice E p pc, .slice F q qc] 38)) := by
      show _ = _
      rw [hw0, hg]
      skip
      exact hat _ _ _ (by simp only [World.size_alloc])
    replace RA := Lib.hid (RA.out.below bb)
    replace RB := Lib.hid (RB.out.below bb)
    replace RE := Lib.hid (RE.out.below bb)
    replace RF := Lib.hid (RF.out.below bb)
    replace HB := Lib.hid (below_then HB.out bb)
    clear bb hg hw0 hat
    go_enter Try.func5, Try.ntmps5
    go_upto_region 1 with fail
    rw [← HG.out]
    rw [show (((w.alloc (Obj.cells #[Value.int .i64 k, .int .i64 u.k, .int .i64 u.n, .string u.s, .slice A n c] 26)).alloc (Obj.cells #[Value.int .i64 j, .int .i64 v.k, .int .i64 v.n, .string v.s, .slice B m d] 26)).alloc (Obj.cells #[Value.slice E p pc, .slice F q qc] 38)) = w0 from HW0.out.symm]
    clear HW0
    obtain ⟨RX0, RX1, RX2, RX3, RX4⟩ := cell_row5 RX.out
    go_wp2_with fail
    refine (FW1.out _).mono ?_
    rintro e v1 ⟨rfl, bb⟩
    replace RX := Lib.hid (row_below RX.out bb)
    replace RY := Lib.hid (row_below RY.out bb)
    replace RZ := Lib.hid (row_below RZ.out bb)
    replace RA := Lib.hid (RA.out.below bb)
    replace RB := Lib.hid (RB.out.below bb)
    replace RE := Lib.hid (RE.out.below bb)
    replace RF := Lib.hid (RF.out.below bb)
    replace HB := Lib.hid (below_then HB.out bb)
    clear bb
    clear RX0 RX1 RX2 RX3 RX4
    obtain ⟨RY0, RY1, RY2, RY3, RY4⟩ := cell_row5 RY.out
    go_wp2_with fail
    refine (FW2.out _).mono ?_
    rintro e v2 ⟨rfl, bb⟩
    replace RX := Lib.hid (row_below RX.out bb)
    replace RY := Lib.hid (row_below RY.out bb)
    replace RZ := Lib.hid (row_below RZ.out bb)
    replace RA := Lib.hid (RA.out.below bb)
    replace RB := Lib.hid (RB.out.below bb)
    replace RE := Lib.hid (RE.out.below bb)
    replace RF := Lib.hid (RF.out.below bb)
    replace HB := Lib.hid (below_then HB.out bb)
    clear bb
    clear RY0 RY1 RY2 RY3 RY4
    have RZ0 := cell_row RZ.out 0
    have RZ1 := cell_row RZ.out 1
    simp only [List.getElem?_toArray, List.getElem?_cons_zero, List.getElem?_cons_succ] at RZ0 RZ1
    obtain ⟨RX0, RX1, RX2, RX3, RX4⟩ := cell_row5 RX.out
    go_wp2_with fail
    refine (CR1.out _ RA.out).mono ?_
    rintro e v3 ⟨rfl, bb⟩
    replace RX := Lib.hid (row_below RX.out bb)
    replace RY := Lib.hid (row_below RY.out bb)
    replace RZ := Lib.hid (row_below RZ.out bb)
    replace RA := Lib.hid (RA.out.below bb)
    replace RB := Lib.hid (RB.out.below bb)
    replace RE := Lib.hid (RE.out.below bb)
    replace RF := Lib.hid (RF.out.below bb)
    replace HB := Lib.hid (below_then HB.out bb)
    clear bb
    clear RX0 RX1 RX2 RX3 RX4
    clear RZ0 RZ1
    obtain ⟨RY0, RY1, RY2, RY3, RY4⟩ := cell_row5 RY.out
    go_wp2_with fail
    refine (CR2.out _ RB.out).mono ?_
    rintro e v4 ⟨rfl, bb⟩
    replace RX := Lib.hid (row_below RX.out bb)
    replace RY := Lib.hid (row_below RY.out bb)
    replace RZ := Lib.hid (row_below RZ.out bb)
    replace RA := Lib.hid (RA.out.below bb)
    replace RB := Lib.hid (RB.out.below bb)
    replace RE := Lib.hid (RE.out.below bb)
    replace RF := Lib.hid (RF.out.below bb)
    replace HB := Lib.hid (below_then HB.out bb)
    clear bb
    clear RY0 RY1 RY2 RY3 RY4
    go_wp2_with fail
    refine (alive7_any _).mono ?_
    rintro e v5 ⟨rfl, bb⟩
    replace RX := Lib.hid (row_below RX.out bb)
    replace RY := Lib.hid (row_below RY.out bb)
    replace RZ := Lib.hid (row_below RZ.out bb)
    replace RA := Lib.hid (RA.out.below bb)
    replace RB := Lib.hid (RB.out.below bb)
    replace RE := Lib.hid (RE.out.below bb)
    replace RF := Lib.hid (RF.out.below bb)
    replace HB := Lib.hid (below_then HB.out bb)
    clear bb
    go_wp2_with fail
    go_ret
    exact ⟨rfl, HB.out⟩
  | true =>
    have FW1 : Hid (∀ W : World, Calls Try.prog 15 #[cellV k u (.slice A n c)] W fun e w' => e = .returned (.bool true) ∧ Below W.heap.size W w') := by
      intro W
      have := refFew_any k u A n c W
      rwa [decide_eq_true (by omega)] at this
    have FW2 : Hid (∀ W : World, Calls Try.prog 15 #[cellV j v (.slice B m d)] W fun e w' => e = .returned (.bool true) ∧ Below W.heap.size W w') := by
      intro W
      have := refFew_any j v B m d W
      rwa [decide_eq_true (by omega)] at this
    have hp1 : ¬ (100 : Int) < (p : Int) := by omega
    have hq1 : ¬ (100 : Int) < (q : Int) := by omega
    obtain ⟨L, hL⟩ : ∃ L, joinL la lb na nb = L := ⟨_, rfl⟩
    obtain ⟨N, hN⟩ : ∃ N, L.length = N := ⟨_, rfl⟩
    have hnm : n + m ≤ 4294967000 := by omega
    clear hn hm hp hq
    obtain ⟨g, hg⟩ : ∃ g, g = w.heap.size := ⟨_, rfl⟩
    obtain ⟨w0, hw0⟩ : ∃ w1, w1 = (((w.alloc (cellRow k u (.slice A n c))).alloc (cellRow j v (.slice B m d))).alloc (.cells #[.slice E p pc, .slice F q qc] 38)) := ⟨_, rfl⟩
    have HW0 := Lib.hid hw0; have HG := Lib.hid hg
    have hat : ∀ (w : World) (o : Obj) (g : Nat), w.heap.size = g → (w.alloc o).heap[g]? = some o := fun w o g h => by subst h; exact heap_alloc_new _ _
    have bb : Below w.heap.size w w0 := by rw [hw0]; exact below_new (below_new (below_new (Below.refl _ _) _) _) _
    have RX : Hid (w0.heap[g]? = some (cellRow k u (.slice A n c))) := by
      show _ = _
      rw [hw0, hg]
      rw [Below.heap_alloc _ _ _ (by simp only [World.size_alloc]; omega), Below.heap_alloc _ _ _ (by simp only [World.size_alloc]; omega)]
      exact hat _ _ _ rfl
    have RY : Hid (w0.heap[g + 1]? = some (cellRow j v (.slice B m d))) := by
      show _ = _
      rw [hw0, hg]
      rw [Below.heap_alloc _ _ _ (by simp only [World.size_alloc]; omega)]
      exact hat _ _ _ (by simp only [World.size_alloc])
    have RZ : Hid (w0.heap[g + 2]? = some (.cells #[.slice E p pc, .slice F q qc] 38)) := by
      show _ = _
      rw [hw0, hg]
      skip
      exact hat _ _ _ (by simp only [World.size_alloc])
    replace RA := Lib.hid (RA.out.below bb)
    replace RB := Lib.hid (RB.out.below bb)
    replace RE := Lib.hid (RE.out.below bb)
    replace RF := Lib.hid (RF.out.below bb)
    replace HB := Lib.hid (below_then HB.out bb)
    clear bb hg hw0 hat
    go_enter Try.func5, Try.ntmps5
    go_upto_region 1 with fail
    rw [← HG.out]
    rw [show (((w.alloc (Obj.cells #[Value.int .i64 k, .int .i64 u.k, .int .i64 u.n, .string u.s, .slice A n c] 26)).alloc (Obj.cells #[Value.int .i64 j, .int .i64 v.k, .int .i64 v.n, .string v.s, .slice B m d] 26)).alloc (Obj.cells #[Value.slice E p pc, .slice F q qc] 38)) = w0 from HW0.out.symm]
    clear HW0
    obtain ⟨RX0, RX1, RX2, RX3, RX4⟩ := cell_row5 RX.out
    go_wp2_with fail
    refine (FW1.out _).mono ?_
    rintro e v1 ⟨rfl, bb⟩
    replace RX := Lib.hid (row_below RX.out bb)
    replace RY := Lib.hid (row_below RY.out bb)
    replace RZ := Lib.hid (row_below RZ.out bb)
    replace RA := Lib.hid (RA.out.below bb)
    replace RB := Lib.hid (RB.out.below bb)
    replace RE := Lib.hid (RE.out.below bb)
    replace RF := Lib.hid (RF.out.below bb)
    replace HB := Lib.hid (below_then HB.out bb)
    clear bb
    clear RX0 RX1 RX2 RX3 RX4
    obtain ⟨RY0, RY1, RY2, RY3, RY4⟩ := cell_row5 RY.out
    go_wp2_with fail
    refine (FW2.out _).mono ?_
    rintro e v2 ⟨rfl, bb⟩
    replace RX := Lib.hid (row_below RX.out bb)
    replace RY := Lib.hid (row_below RY.out bb)
    replace RZ := Lib.hid (row_below RZ.out bb)
    replace RA := Lib.hid (RA.out.below bb)
    replace RB := Lib.hid (RB.out.below bb)
    replace RE := Lib.hid (RE.out.below bb)
    replace RF := Lib.hid (RF.out.below bb)
    replace HB := Lib.hid (below_then HB.out bb)
    clear bb
    clear RY0 RY1 RY2 RY3 RY4
    have RZ0 := cell_row RZ.out 0
    have RZ1 := cell_row RZ.out 1
    simp only [List.getElem?_toArray, List.getElem?_cons_zero, List.getElem?_cons_succ] at RZ0 RZ1
    obtain ⟨RX0, RX1, RX2, RX3, RX4⟩ := cell_row5 RX.out
    go_wp2_with fail
    refine (CR1.out _ RA.out).mono ?_
    rintro e v3 ⟨rfl, bb⟩
    replace RX := Lib.hid (row_below RX.out bb)
    replace RY := Lib.hid (row_below RY.out bb)
    replace RZ := Lib.hid (row_below RZ.out bb)
    replace RA := Lib.hid (RA.out.below bb)
    replace RB := Lib.hid (RB.out.below bb)
    replace RE := Lib.hid (RE.out.below bb)
    replace RF := Lib.hid (RF.out.below bb)
    replace HB := Lib.hid (below_then HB.out bb)
    clear bb
    clear RX0 RX1 RX2 RX3 RX4
    clear RZ0 RZ1
    obtain ⟨RY0, RY1, RY2, RY3, RY4⟩ := cell_row5 RY.out
    go_wp2_with fail
    refine (CR2.out _ RB.out).mono ?_
    rintro e v4 ⟨rfl, bb⟩
    replace RX := Lib.hid (row_below RX.out bb)
    replace RY := Lib.hid (row_below RY.out bb)
    replace RZ := Lib.hid (row_below RZ.out bb)
    replace RA := Lib.hid (RA.out.below bb)
    replace RB := Lib.hid (RB.out.below bb)
    replace RE := Lib.hid (RE.out.below bb)
    replace RF := Lib.hid (RF.out.below bb)
    replace HB := Lib.hid (below_then HB.out bb)
    clear bb
    clear RY0 RY1 RY2 RY3 RY4
    have W1 : Hid (∀ W : World, Below v4.heap.size v4 W → Calls Try.prog 22 #[cellV k u (.slice A n c), cellV j v (.slice B m d), .slice E p pc, .slice F q qc] W fun e w' => ∃ A' c', e = .returned (cellV 1 ⟨0, 0, ⟨#[]⟩⟩ (.slice A' N c')) ∧ RdP w' A' N c' L ∧ Below W.heap.size W w') := by
      intro W hW
      have := join_any k u A n c la j v B m d lb E p pc na F q qc nb W (RA.out.below hW) (RB.out.below hW) (by omega) (RE.out.below hW) (RF.out.below hW)
      rw [hL, hN] at this
      exact this
    have W2 : Hid (∀ W : World, Below v4.heap.size v4 W → Calls Try.prog 23 #[cellV k u (.slice A n c), cellV j v (.slice B m d), .slice E p pc, .slice F q qc] W fun e w' => ∃ A' c', e = .returned (cellV 1 ⟨0, 0, ⟨#[]⟩⟩ (.slice A' N c')) ∧ RdP w' A' N c' L ∧ Below W.heap.size W w') := by
      intro W hW
      have := refJoin_any k u A n c la j v B m d lb E p pc na F q qc nb W (RA.out.below hW) (RB.out.below hW) (by omega) (RE.out.below hW) (RF.out.below hW)
      rw [hL, hN] at this
      exact this
    clear hL hN
    obtain ⟨RX0, RX1, RX2, RX3, RX4⟩ := cell_row5 RX.out
    obtain ⟨RY0, RY1, RY2, RY3, RY4⟩ := cell_row5 RY.out
    have RZ0 := cell_row RZ.out 0
    have RZ1 := cell_row RZ.out 1
    simp only [List.getElem?_toArray, List.getElem?_cons_zero, List.getElem?_cons_succ] at RZ0 RZ1
    have hS0 : Below v4.heap.size v4 v4 ∧ v4.cell? ⟨g, 0, none⟩ = some (.int .i64 k) ∧ v4.cell? ⟨g, 1, none⟩ = some (.int .i64 u.k) ∧ v4.cell? ⟨g, 2, none⟩ = some (.int .i64 u.n) ∧ v4.cell? ⟨g, 3, none⟩ = some (.string u.s) ∧ v4.cell? ⟨g, 4, none⟩ = some (.slice A n c) ∧ v4.cell? ⟨g + 1, 0, none⟩ = some (.int .i64 j) ∧ v4.cell? ⟨g + 1, 1, none⟩ = some (.int .i64 v.k) ∧ v4.cell? ⟨g + 1, 2, none⟩ = some (.int .i64 v.n) ∧ v4.cell? ⟨g + 1, 3, none⟩ = some (.string v.s) ∧ v4.cell? ⟨g + 1, 4, none⟩ = some (.slice B m d) ∧ v4.cell? ⟨g + 2, 0, none⟩ = some (.slice E p pc) ∧ v4.cell? ⟨g + 2, 1, none⟩ = some (.slice F q qc) := ⟨Below.refl _ _, RX0, RX1, RX2, RX3, RX4, RY0, RY1, RY2, RY3, RY4, RZ0, RZ1⟩
    have K : Hid (∀ W W' : World, (Below v4.heap.size v4 W ∧ W.cell? ⟨g, 0, none⟩ = some (.int .i64 k) ∧ W.cell? ⟨g, 1, none⟩ = some (.int .i64 u.k) ∧ W.cell? ⟨g, 2, none⟩ = some (.int .i64 u.n) ∧ W.cell? ⟨g, 3, none⟩ = some (.string u.s) ∧ W.cell? ⟨g, 4, none⟩ = some (.slice A n c) ∧ W.cell? ⟨g + 1, 0, none⟩ = some (.int .i64 j) ∧ W.cell? ⟨g + 1, 1, none⟩ = some (.int .i64 v.k) ∧ W.cell? ⟨g + 1, 2, none⟩ = some (.int .i64 v.n) ∧ W.cell? ⟨g + 1, 3, none⟩ = some (.string v.s) ∧ W.cell? ⟨g + 1, 4, none⟩ = some (.slice B m d) ∧ W.cell? ⟨g + 2, 0, none⟩ = some (.slice E p pc) ∧ W.cell? ⟨g + 2, 1, none⟩ = some (.slice F q qc)) → Below W.heap.size W W' → (Below v4.heap.size v4 W' ∧ W'.cell? ⟨g, 0, none⟩ = some (.int .i64 k) ∧ W'.cell? ⟨g, 1, none⟩ = some (.int .i64 u.k) ∧ W'.cell? ⟨g, 2, none⟩ = some (.int .i64 u.n) ∧ W'.cell? ⟨g, 3, none⟩ = some (.string u.s) ∧ W'.cell? ⟨g, 4, none⟩ = some (.slice A n c) ∧ W'.cell? ⟨g + 1, 0, none⟩ = some (.int .i64 j) ∧ W'.cell? ⟨g + 1, 1, none⟩ = some (.int .i64 v.k) ∧ W'.cell? ⟨g + 1, 2, none⟩ = some (.int .i64 v.n) ∧ W'.cell? ⟨g + 1, 3, none⟩ = some (.string v.s) ∧ W'.cell? ⟨g + 1, 4, none⟩ = some (.slice B m d) ∧ W'.cell? ⟨g + 2, 0, none⟩ = some (.slice E p pc) ∧ W'.cell? ⟨g + 2, 1, none⟩ = some (.slice F q qc))) := by
      rintro W W' ⟨kk, k0, k1, k2, k3, k4, k5, k6, k7, k8, k9, k10, k11⟩ hb
      have hc : ∀ (p : Addr) (y : Value), W.cell? p = some y → W'.cell? p = some y := fun p y h2 => (hb.cell (World.block_lt_of_cell? _ _ h2)).trans h2
      exact ⟨below_then kk hb, hc _ _ k0, hc _ _ k1, hc _ _ k2, hc _ _ k3, hc _ _ k4, hc _ _ k5, hc _ _ k6, hc _ _ k7, hc _ _ k8, hc _ _ k9, hc _ _ k10, hc _ _ k11⟩
    go_upto_region 3 with fail
    go_region_held3 (fun W => Below v4.heap.size v4 W ∧ W.cell? ⟨g, 0, none⟩ = some (.int .i64 k) ∧ W.cell? ⟨g, 1, none⟩ = some (.int .i64 u.k) ∧ W.cell? ⟨g, 2, none⟩ = some (.int .i64 u.n) ∧ W.cell? ⟨g, 3, none⟩ = some (.string u.s) ∧ W.cell? ⟨g, 4, none⟩ = some (.slice A n c) ∧ W.cell? ⟨g + 1, 0, none⟩ = some (.int .i64 j) ∧ W.cell? ⟨g + 1, 1, none⟩ = some (.int .i64 v.k) ∧ W.cell? ⟨g + 1, 2, none⟩ = some (.int .i64 v.n) ∧ W.cell? ⟨g + 1, 3, none⟩ = some (.string v.s) ∧ W.cell? ⟨g + 1, 4, none⟩ = some (.slice B m d) ∧ W.cell? ⟨g + 2, 0, none⟩ = some (.slice E p pc) ∧ W.cell? ⟨g + 2, 1, none⟩ = some (.slice F q qc))
      (first
        | exact K.out _ _ hS0 ((Below.refl _ _).drew)
        | exact K.out _ _ (by assumption) bb
        | exact K.out _ _ (by assumption) ((Below.refl _ _).alloc (Nat.le_refl _) _)
        | exact K.out _ _ hS0 (((Below.refl _ _).alloc (Nat.le_refl _) _).drew)
        | assumption)
      (first
        | (go_at_call 16; refine (alive7_any _).mono ?_; rintro e wx ⟨rfl, bb⟩)
        | (go_at_call 22; refine (W1.out _ (by first | exact Below.refl _ _ | exact (Below.refl _ _).drew | (go_split_ands; assumption))).mono ?_; rintro e wx ⟨A1, d1, rfl, r1, bb⟩)
        | (go_at_call 23; refine (W2.out _ (by first | exact Below.refl _ _ | exact (Below.refl _ _).drew | (go_split_ands; assumption))).mono ?_; rintro e wx ⟨A2, d2, rfl, r2, bb⟩; replace r1 := r1.below bb)
        | (go_at_call 19; refine (same7_is 1 ⟨0, 0, ⟨#[]⟩⟩ A1 A2 N d1 d2 L _ r1 r2).mono ?_; rintro e wx ⟨rfl, bb⟩))
    have hSz : Below v4.heap.size v4 wx ∧ wx.cell? ⟨g, 0, none⟩ = some (.int .i64 k) ∧ wx.cell? ⟨g, 1, none⟩ = some (.int .i64 u.k) ∧ wx.cell? ⟨g, 2, none⟩ = some (.int .i64 u.n) ∧ wx.cell? ⟨g, 3, none⟩ = some (.string u.s) ∧ wx.cell? ⟨g, 4, none⟩ = some (.slice A n c) ∧ wx.cell? ⟨g + 1, 0, none⟩ = some (.int .i64 j) ∧ wx.cell? ⟨g + 1, 1, none⟩ = some (.int .i64 v.k) ∧ wx.cell? ⟨g + 1, 2, none⟩ = some (.int .i64 v.n) ∧ wx.cell? ⟨g + 1, 3, none⟩ = some (.string v.s) ∧ wx.cell? ⟨g + 1, 4, none⟩ = some (.slice B m d) ∧ wx.cell? ⟨g + 2, 0, none⟩ = some (.slice E p pc) ∧ wx.cell? ⟨g + 2, 1, none⟩ = some (.slice F q qc) := by assumption
    have HZ := below_then HB.out hSz.1
    go_wp2_with fail
    go_ret
    exact ⟨rfl, HZ⟩

set_option maxRecDepth 100000 in
theorem contract (H : Type) (enc : TypeId × Value → H) (W : World) (base : Nat) (args : Array Value) (ds gs : List (DataW H)) (before : List MemPlace)
    (hval : ∀ (j : Nat) t v, Try.f5.params[j]? = some t → args[j]? = some v → Value.okWide Try.prog W .any base t v)
    (hW : DataW.Whole enc Try.prog Try.f5.params.toList Rows.multiJoinsSpec.vars false W args.toList ds gs before) :
    Calls Try.prog 5 args W fun e W' => ∃ v, e = .returned v ∧ Rows.multiJoinsSpec.post enc Try.prog Try.f5 false true false false W args v W' := by
  have hlt : ∀ x ∈ before, x.block < W.heap.size := fun x hx => by simpa using hW.lt x hx
  refine law_step 4 Try.laid_ (by kernel_rfl) rfl Try.underlying4 rfl hW (fun xs hx => ?_) ?_
  · match xs, hx with
    | [d0, d1, d2], _ => rfl
  · obtain ⟨p, q, hA0, hV, rfl, _, _⟩ := hW
    have hA : DataW.TrodAll enc Try.prog W 0 (fun _ => true) true Try.f5.params.toList args.toList ds p := hA0
    rw [Try.params5] at hA hval
    obtain ⟨v0, vs0, d0, ds0, p0, q0, e0, rfl, rfl, h0, r0⟩ := trodAll_cons hA
    obtain ⟨v1, vs1, d1, ds1, p1, q1, e1, rfl, rfl, h1, r1⟩ := trodAll_cons r0
    obtain ⟨v2, vs2, d2, ds2, p2, q2, e2, rfl, rfl, h2, r2⟩ := trodAll_cons r1
    obtain ⟨rfl, rfl, rfl⟩ := trodAll_nil r2
    subst e2
    subst e1
    obtain rfl : args = #[v0, v1, v2] := by cases args; simp_all
    clear e0 hA0
    obtain ⟨k0, u0, A0, n0, c0, la, rfl, rd0, wk0, wu0, wl0⟩ := open_cell (hval 0 26 v0 rfl rfl) h0
    obtain ⟨k1, u1, A1, n1, c1, lb, rfl, rd1, wk1, wu1, wl1⟩ := open_cell (hval 1 26 v1 rfl rfl) h1
    obtain ⟨E2, p2, pc2, na2, F2, q2, qc2, nb2, rfl, rda2, rdb2, wa2, wb2⟩ := open_vec2 (hval 2 38 v2 rfl rfl) h2
    exact walk k0 k1 u0 u1 A0 A1 E2 F2 n0 c0 n1 c1 p2 pc2 q2 qc2 la lb na2 nb2 W rd0 rd1 rda2 rdb2

set_option maxRecDepth 100000 in
theorem lifted (os : Os) (started : os.Started) (H : Type) (enc : TypeId × Value → H) :
    ReturnsInHanded {} Try.checked os 5 .any (Rows.multiJoinsSpec.pre6 enc Try.prog Try.f5 Rows.multiJoinsRow.domain false) (Rows.multiJoinsSpec.post enc Try.prog Try.f5 false true false false) := by
  refine returnsInHanded_of_change (C := Try.checked) Try.own_ started (by kernel_rfl) Try.func5
    (ChangeSpec.witness6 (enc := enc) (C := Try.checked) false ⟨#[], #[.agg #[.int .i64 0, .int .i64 0, .int .i64 0, .string ⟨#[]⟩, .slice none 0 0], .agg #[.int .i64 0, .int .i64 0, .int .i64 0, .string ⟨#[]⟩, .slice none 0 0], .agg #[.slice none 0 0, .slice none 0 0]], []⟩ 8 (by kernel_rfl) (by kernel_rfl) (by kernel_rfl) (by kernel_rfl)) ?_
  intro W base args ds gs before hval hW _ _
  exact contract H enc W base args ds gs before hval hW

theorem holds : Rows.MultiJoinsSaid :=
  OpenClaim.holds_of_wide 5 Try.f5 rfl rfl rfl rfl rfl rfl rfl ⟨rfl, rfl, rfl, rfl, rfl⟩ rfl rfl rfl rfl rfl (by kernel_rfl) Try.func5 (by kernel_rfl)
    (of_decide_eq_true (by kernel_rfl)) (by unfold Func.isWrapper; first | (rw [if_pos (by decide +kernel)]; kernel_rfl) | (rw [if_neg (by decide +kernel)]; exact ⟨rfl, rfl⟩))
    (fun os started H enc _ => lifted os started H enc)
end Go.Proofs.Ytieaobeidlhefaa.multiJoins
