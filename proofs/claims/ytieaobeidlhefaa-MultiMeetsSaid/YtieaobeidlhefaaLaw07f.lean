/- Two copies of a cell, each of which got another write, join to what one copy has that got both; a copy joined with itself is itself. Of all cells, values, vectors. -/
import Derived.Test.YtieaobeidlhefaaRows
import Derived.Test.YtieaobeidlhefaaLaw
import Derived.Test.YtieaobeidlhefaaMulAlive
import Derived.Test.YtieaobeidlhefaaMbOpen
import Derived.Test.YtieaobeidlhefaaMulMeet
import Derived.Test.YtieaobeidlhefaaVecRefMake
import Derived.Test.YtieaobeidlhefaaMulOpen3
namespace Go.Proofs.Ytieaobeidlhefaa.multiMeets
open Go.ChangeShapes Go.WideShapes Go.ChangeAt Go.RowKit Go.ChangeMaps

set_option maxRecDepth 100000 in
set_option maxHeartbeats 25600000 in
theorem walk (k : Int) (u : V3) (A E F D : Option Addr) (n c p pc q qc s sc : Nat) (l : List P11) (z0 z1 : V3) (a0 a1 a2 : List Int) (w : World) (h : RdP w A n c l) (h0 : Rd w E p pc (vals .i64 a0)) (h1 : Rd w F q qc (vals .i64 a1)) (h2 : Rd w D s sc (vals .i64 a2)) (hp : p ≤ 140737488351232) (hq : q ≤ 140737488351232) (hs : s ≤ 140737488351232) :
    Calls Try.prog 8 #[cellV k u (.slice A n c), .agg #[.int .i64 z0.k, .int .i64 z0.n, .string z0.s, .int .i64 z1.k, .int .i64 z1.n, .string z1.s], .agg #[.slice E p pc, .slice F q qc, .slice D s sc]] w fun e w' => e = .returned (.bool true) ∧ Below w.heap.size w w' := by
  have HB := Lib.hid (Below.refl w.heap.size w)
  have HLN := Lib.hid h.len
  have hle := h.le
  have RD := Lib.hid h; have R0 := Lib.hid h0; have R1 := Lib.hid h1; have R2 := Lib.hid h2
  clear h h0 h1 h2
  obtain ⟨r1, hr1⟩ : ∃ r, Hid (rightV a0 = r) := ⟨_, rfl⟩
  have V1 : Hid (∀ W : World, Rd W E p pc (vals .i64 a0) → Calls Try.prog 27 #[.slice E p pc] W fun e w' => e = .returned (.bool r1) ∧ Below W.heap.size W w') := by
    intro W hW; rw [← hr1.out]; exact (vecRight_any E p pc a0 W hW).mono fun e w' h => ⟨h.1, by rw [h.2]; exact Below.refl _ _⟩
  obtain ⟨r2, hr2⟩ : ∃ r, Hid (rightC k u l = r) := ⟨_, rfl⟩
  have CR : Hid (∀ W : World, RdP W A n c l → Calls Try.prog 17 #[cellV k u (.slice A n c)] W fun e w' => e = .returned (.bool r2) ∧ Below W.heap.size W w') := by
    intro W hW; rw [← hr2.out]; exact right7_any k u A n c l W hW
  obtain ⟨r3, hr3⟩ : ∃ r, Hid (uptoV a1 a0 = r) := ⟨_, rfl⟩
  have U1 : Hid (∀ W : World, Rd W F q qc (vals .i64 a1) → Rd W E p pc (vals .i64 a0) → Calls Try.prog 28 #[.slice F q qc, .slice E p pc] W fun e w' => e = .returned (.bool r3) ∧ Below W.heap.size W w') := by
    intro W h1 h0; rw [← hr3.out]; exact (refUpto_free F E q p qc pc a1 a0 W h1 h0 hq hp).mono fun e w' h => ⟨h.1, by rw [h.2]; exact Below.refl _ _⟩
  obtain ⟨r4, hr4⟩ : ∃ r, Hid (uptoV a2 a0 = r) := ⟨_, rfl⟩
  have U2 : Hid (∀ W : World, Rd W D s sc (vals .i64 a2) → Rd W E p pc (vals .i64 a0) → Calls Try.prog 28 #[.slice D s sc, .slice E p pc] W fun e w' => e = .returned (.bool r4) ∧ Below W.heap.size W w') := by
    intro W h1 h0; rw [← hr4.out]; exact (refUpto_free D E s p sc pc a2 a0 W h1 h0 hs hp).mono fun e w' h => ⟨h.1, by rw [h.2]; exact Below.refl _ _⟩
  clear hp hq hs
  by_cases hn : n ≤ 60
  rotate_left
  · have FW : Hid (∀ W : World, Calls Try.prog 15 #[cellV k u (.slice A n c)] W fun e w' => e = .returned (.bool false) ∧ Below W.heap.size W w') := by
      intro W
      have := refFew_any k u A n c W
      rwa [decide_eq_false (by omega)] at this
    clear hn
    obtain ⟨g, hg⟩ : ∃ g, g = w.heap.size := ⟨_, rfl⟩
    obtain ⟨w0, hw0⟩ : ∃ w1, w1 = (((w.alloc (cellRow k u (.slice A n c))).alloc (.cells #[.int .i64 z0.k, .int .i64 z0.n, .string z0.s, .int .i64 z1.k, .int .i64 z1.n, .string z1.s] 46)).alloc (.cells #[.slice E p pc, .slice F q qc, .slice D s sc] 47)) := ⟨_, rfl⟩
    have HW0 := Lib.hid hw0; have HG := Lib.hid hg
    have hat : ∀ (w : World) (o : Obj) (g : Nat), w.heap.size = g → (w.alloc o).heap[g]? = some o := fun w o g h => by subst h; exact heap_alloc_new _ _
    have bb : Below w.heap.size w w0 := by rw [hw0]; exact below_new (below_new (below_new (Below.refl _ _) _) _) _
    have RX : Hid (w0.heap[g]? = some (cellRow k u (.slice A n c))) := by
      show _ = _
      rw [hw0, hg]
      rw [Below.heap_alloc _ _ _ (by simp only [World.size_alloc]; omega), Below.heap_alloc _ _ _ (by simp only [World.size_alloc]; omega)]
      exact hat _ _ _ rfl
    have RZ : Hid (w0.heap[g + 1]? = some (.cells #[.int .i64 z0.k, .int .i64 z0.n, .string z0.s, .int .i64 z1.k, .int .i64 z1.n, .string z1.s] 46)) := by
      show _ = _
      rw [hw0, hg]
      rw [Below.heap_alloc _ _ _ (by simp only [World.size_alloc]; omega)]
      exact hat _ _ _ (by simp only [World.size_alloc])
    have RK : Hid (w0.heap[g + 2]? = some (.cells #[.slice E p pc, .slice F q qc, .slice D s sc] 47)) := by
      show _ = _
      rw [hw0, hg]
      skip
      exact hat _ _ _ (by simp only [World.size_alloc])
    replace RD := Lib.hid (RD.out.below bb)
    replace R0 := Lib.hid (R0.out.below bb)
    replace R1 := Lib.hid (R1.out.below bb)
    replace R2 := Lib.hid (R2.out.below bb)
    replace HB := Lib.hid (below_then HB.out bb)
    clear bb hg hw0 hat
    go_enter Try.func8, Try.ntmps8
    go_upto_region 1 with fail
    rw [← HG.out]
    rw [show (((w.alloc (Obj.cells #[Value.int .i64 k, .int .i64 u.k, .int .i64 u.n, .string u.s, .slice A n c] 26)).alloc (Obj.cells #[Value.int .i64 z0.k, .int .i64 z0.n, .string z0.s, .int .i64 z1.k, .int .i64 z1.n, .string z1.s] 46)).alloc (Obj.cells #[Value.slice E p pc, .slice F q qc, .slice D s sc] 47)) = w0 from HW0.out.symm]
    clear HW0
    obtain ⟨RX0, RX1, RX2, RX3, RX4⟩ := cell_row5 RX.out
    go_wp2_with fail
    refine (FW.out _).mono ?_
    rintro e v1 ⟨rfl, bb⟩
    replace RX := Lib.hid (row_below RX.out bb)
    replace RZ := Lib.hid (row_below RZ.out bb)
    replace RK := Lib.hid (row_below RK.out bb)
    replace RD := Lib.hid (RD.out.below bb)
    replace R0 := Lib.hid (R0.out.below bb)
    replace R1 := Lib.hid (R1.out.below bb)
    replace R2 := Lib.hid (R2.out.below bb)
    replace HB := Lib.hid (below_then HB.out bb)
    clear bb
    clear RX0 RX1 RX2 RX3 RX4
    go_wp2_with fail
    refine (alive7_any _).mono ?_
    rintro e v2 ⟨rfl, bb⟩
    replace RX := Lib.hid (row_below RX.out bb)
    replace RZ := Lib.hid (row_below RZ.out bb)
    replace RK := Lib.hid (row_below RK.out bb)
    replace RD := Lib.hid (RD.out.below bb)
    replace R0 := Lib.hid (R0.out.below bb)
    replace R1 := Lib.hid (R1.out.below bb)
    replace R2 := Lib.hid (R2.out.below bb)
    replace HB := Lib.hid (below_then HB.out bb)
    clear bb
    go_wp2_with fail
    go_ret
    exact ⟨rfl, HB.out⟩
  by_cases hp : p ≤ 60
  rotate_left
  · have FW : Hid (∀ W : World, Calls Try.prog 15 #[cellV k u (.slice A n c)] W fun e w' => e = .returned (.bool true) ∧ Below W.heap.size W w') := by
      intro W
      have := refFew_any k u A n c W
      rwa [decide_eq_true (by omega)] at this
    have hp1 : (60 : Int) < (p : Int) := by omega
    clear hn hp
    obtain ⟨g, hg⟩ : ∃ g, g = w.heap.size := ⟨_, rfl⟩
    obtain ⟨w0, hw0⟩ : ∃ w1, w1 = (((w.alloc (cellRow k u (.slice A n c))).alloc (.cells #[.int .i64 z0.k, .int .i64 z0.n, .string z0.s, .int .i64 z1.k, .int .i64 z1.n, .string z1.s] 46)).alloc (.cells #[.slice E p pc, .slice F q qc, .slice D s sc] 47)) := ⟨_, rfl⟩
    have HW0 := Lib.hid hw0; have HG := Lib.hid hg
    have hat : ∀ (w : World) (o : Obj) (g : Nat), w.heap.size = g → (w.alloc o).heap[g]? = some o := fun w o g h => by subst h; exact heap_alloc_new _ _
    have bb : Below w.heap.size w w0 := by rw [hw0]; exact below_new (below_new (below_new (Below.refl _ _) _) _) _
    have RX : Hid (w0.heap[g]? = some (cellRow k u (.slice A n c))) := by
      show _ = _
      rw [hw0, hg]
      rw [Below.heap_alloc _ _ _ (by simp only [World.size_alloc]; omega), Below.heap_alloc _ _ _ (by simp only [World.size_alloc]; omega)]
      exact hat _ _ _ rfl
    have RZ : Hid (w0.heap[g + 1]? = some (.cells #[.int .i64 z0.k, .int .i64 z0.n, .string z0.s, .int .i64 z1.k, .int .i64 z1.n, .string z1.s] 46)) := by
      show _ = _
      rw [hw0, hg]
      rw [Below.heap_alloc _ _ _ (by simp only [World.size_alloc]; omega)]
      exact hat _ _ _ (by simp only [World.size_alloc])
    have RK : Hid (w0.heap[g + 2]? = some (.cells #[.slice E p pc, .slice F q qc, .slice D s sc] 47)) := by
      show _ = _
      rw [hw0, hg]
      skip
      exact hat _ _ _ (by simp only [World.size_alloc])
    replace RD := Lib.hid (RD.out.below bb)
    replace R0 := Lib.hid (R0.out.below bb)
    replace R1 := Lib.hid (R1.out.below bb)
    replace R2 := Lib.hid (R2.out.below bb)
    replace HB := Lib.hid (below_then HB.out bb)
    clear bb hg hw0 hat
    go_enter Try.func8, Try.ntmps8
    go_upto_region 1 with fail
    rw [← HG.out]
    rw [show (((w.alloc (Obj.cells #[Value.int .i64 k, .int .i64 u.k, .int .i64 u.n, .string u.s, .slice A n c] 26)).alloc (Obj.cells #[Value.int .i64 z0.k, .int .i64 z0.n, .string z0.s, .int .i64 z1.k, .int .i64 z1.n, .string z1.s] 46)).alloc (Obj.cells #[Value.slice E p pc, .slice F q qc, .slice D s sc] 47)) = w0 from HW0.out.symm]
    clear HW0
    obtain ⟨RX0, RX1, RX2, RX3, RX4⟩ := cell_row5 RX.out
    go_wp2_with fail
    refine (FW.out _).mono ?_
    rintro e v1 ⟨rfl, bb⟩
    replace RX := Lib.hid (row_below RX.out bb)
    replace RZ := Lib.hid (row_below RZ.out bb)
    replace RK := Lib.hid (row_below RK.out bb)
    replace RD := Lib.hid (RD.out.below bb)
    replace R0 := Lib.hid (R0.out.below bb)
    replace R1 := Lib.hid (R1.out.below bb)
    replace R2 := Lib.hid (R2.out.below bb)
    replace HB := Lib.hid (below_then HB.out bb)
    clear bb
    clear RX0 RX1 RX2 RX3 RX4
    have RK0 := cell_row RK.out 0
    have RK1 := cell_row RK.out 1
    have RK2 := cell_row RK.out 2
    simp only [List.getElem?_toArray, List.getElem?_cons_zero, List.getElem?_cons_succ] at RK0 RK1 RK2
    go_wp2_with fail
    refine (alive7_any _).mono ?_
    rintro e v2 ⟨rfl, bb⟩
    replace RX := Lib.hid (row_below RX.out bb)
    replace RZ := Lib.hid (row_below RZ.out bb)
    replace RK := Lib.hid (row_below RK.out bb)
    replace RD := Lib.hid (RD.out.below bb)
    replace R0 := Lib.hid (R0.out.below bb)
    replace R1 := Lib.hid (R1.out.below bb)
    replace R2 := Lib.hid (R2.out.below bb)
    replace HB := Lib.hid (below_then HB.out bb)
    clear bb
    go_wp2_with fail
    go_ret
    exact ⟨rfl, HB.out⟩
  cases r1 with
  | false =>
    have FW : Hid (∀ W : World, Calls Try.prog 15 #[cellV k u (.slice A n c)] W fun e w' => e = .returned (.bool true) ∧ Below W.heap.size W w') := by
      intro W
      have := refFew_any k u A n c W
      rwa [decide_eq_true (by omega)] at this
    have hp1 : ¬ (60 : Int) < (p : Int) := by omega
    clear hn hp
    obtain ⟨g, hg⟩ : ∃ g, g = w.heap.size := ⟨_, rfl⟩
    obtain ⟨w0, hw0⟩ : ∃ w1, w1 = (((w.alloc (cellRow k u (.slice A n c))).alloc (.cells #[.int .i64 z0.k, .int .i64 z0.n, .string z0.s, .int .i64 z1.k, .int .i64 z1.n, .string z1.s] 46)).alloc (.cells #[.slice E p pc, .slice F q qc, .slice D s sc] 47)) := ⟨_, rfl⟩
    have HW0 := Lib.hid hw0; have HG := Lib.hid hg
    have hat : ∀ (w : World) (o : Obj) (g : Nat), w.heap.size = g → (w.alloc o).heap[g]? = some o := fun w o g h => by subst h; exact heap_alloc_new _ _
    have bb : Below w.heap.size w w0 := by rw [hw0]; exact below_new (below_new (below_new (Below.refl _ _) _) _) _
    have RX : Hid (w0.heap[g]? = some (cellRow k u (.slice A n c))) := by
      show _ = _
      rw [hw0, hg]
      rw [Below.heap_alloc _ _ _ (by simp only [World.size_alloc]; omega), Below.heap_alloc _ _ _ (by simp only [World.size_alloc]; omega)]
      exact hat _ _ _ rfl
    have RZ : Hid (w0.heap[g + 1]? = some (.cells #[.int .i64 z0.k, .int .i64 z0.n, .string z0.s, .int .i64 z1.k, .int .i64 z1.n, .string z1.s] 46)) := by
      show _ = _
      rw [hw0, hg]
      rw [Below.heap_alloc _ _ _ (by simp only [World.size_alloc]; omega)]
      exact hat _ _ _ (by simp only [World.size_alloc])
    have RK : Hid (w0.heap[g + 2]? = some (.cells #[.slice E p pc, .slice F q qc, .slice D s sc] 47)) := by
      show _ = _
      rw [hw0, hg]
      skip
      exact hat _ _ _ (by simp only [World.size_alloc])
    replace RD := Lib.hid (RD.out.below bb)
    replace R0 := Lib.hid (R0.out.below bb)
    replace R1 := Lib.hid (R1.out.below bb)
    replace R2 := Lib.hid (R2.out.below bb)
    replace HB := Lib.hid (below_then HB.out bb)
    clear bb hg hw0 hat
    go_enter Try.func8, Try.ntmps8
    go_upto_region 1 with fail
    rw [← HG.out]
    rw [show (((w.alloc (Obj.cells #[Value.int .i64 k, .int .i64 u.k, .int .i64 u.n, .string u.s, .slice A n c] 26)).alloc (Obj.cells #[Value.int .i64 z0.k, .int .i64 z0.n, .string z0.s, .int .i64 z1.k, .int .i64 z1.n, .string z1.s] 46)).alloc (Obj.cells #[Value.slice E p pc, .slice F q qc, .slice D s sc] 47)) = w0 from HW0.out.symm]
    clear HW0
    obtain ⟨RX0, RX1, RX2, RX3, RX4⟩ := cell_row5 RX.out
    go_wp2_with fail
    refine (FW.out _).mono ?_
    rintro e v1 ⟨rfl, bb⟩
    replace RX := Lib.hid (row_below RX.out bb)
    replace RZ := Lib.hid (row_below RZ.out bb)
    replace RK := Lib.hid (row_below RK.out bb)
    replace RD := Lib.hid (RD.out.below bb)
    replace R0 := Lib.hid (R0.out.below bb)
    replace R1 := Lib.hid (R1.out.below bb)
    replace R2 := Lib.hid (R2.out.below bb)
    replace HB := Lib.hid (below_then HB.out bb)
    clear bb
    clear RX0 RX1 RX2 RX3 RX4
    have RK0 := cell_row RK.out 0
    have RK1 := cell_row RK.out 1
    have RK2 := cell_row RK.out 2
    simp only [List.getElem?_toArray, List.getElem?_cons_zero, List.getElem?_cons_succ] at RK0 RK1 RK2
    go_wp2_with fail
    refine (V1.out _ R0.out).mono ?_
    rintro e v2 ⟨rfl, bb⟩
    replace RX := Lib.hid (row_below RX.out bb)
    replace RZ := Lib.hid (row_below RZ.out bb)
    replace RK := Lib.hid (row_below RK.out bb)
    replace RD := Lib.hid (RD.out.below bb)
    replace R0 := Lib.hid (R0.out.below bb)
    replace R1 := Lib.hid (R1.out.below bb)
    replace R2 := Lib.hid (R2.out.below bb)
    replace HB := Lib.hid (below_then HB.out bb)
    clear bb
    clear RK0 RK1 RK2
    go_wp2_with fail
    refine (alive7_any _).mono ?_
    rintro e v3 ⟨rfl, bb⟩
    replace RX := Lib.hid (row_below RX.out bb)
    replace RZ := Lib.hid (row_below RZ.out bb)
    replace RK := Lib.hid (row_below RK.out bb)
    replace RD := Lib.hid (RD.out.below bb)
    replace R0 := Lib.hid (R0.out.below bb)
    replace R1 := Lib.hid (R1.out.below bb)
    replace R2 := Lib.hid (R2.out.below bb)
    replace HB := Lib.hid (below_then HB.out bb)
    clear bb
    go_wp2_with fail
    go_ret
    exact ⟨rfl, HB.out⟩
  | true =>
  cases r2 with
  | false =>
    have FW : Hid (∀ W : World, Calls Try.prog 15 #[cellV k u (.slice A n c)] W fun e w' => e = .returned (.bool true) ∧ Below W.heap.size W w') := by
      intro W
      have := refFew_any k u A n c W
      rwa [decide_eq_true (by omega)] at this
    have hp1 : ¬ (60 : Int) < (p : Int) := by omega
    clear hn hp
    obtain ⟨g, hg⟩ : ∃ g, g = w.heap.size := ⟨_, rfl⟩
    obtain ⟨w0, hw0⟩ : ∃ w1, w1 = (((w.alloc (cellRow k u (.slice A n c))).alloc (.cells #[.int .i64 z0.k, .int .i64 z0.n, .string z0.s, .int .i64 z1.k, .int .i64 z1.n, .string z1.s] 46)).alloc (.cells #[.slice E p pc, .slice F q qc, .slice D s sc] 47)) := ⟨_, rfl⟩
    have HW0 := Lib.hid hw0; have HG := Lib.hid hg
    have hat : ∀ (w : World) (o : Obj) (g : Nat), w.heap.size = g → (w.alloc o).heap[g]? = some o := fun w o g h => by subst h; exact heap_alloc_new _ _
    have bb : Below w.heap.size w w0 := by rw [hw0]; exact below_new (below_new (below_new (Below.refl _ _) _) _) _
    have RX : Hid (w0.heap[g]? = some (cellRow k u (.slice A n c))) := by
      show _ = _
      rw [hw0, hg]
      rw [Below.heap_alloc _ _ _ (by simp only [World.size_alloc]; omega), Below.heap_alloc _ _ _ (by simp only [World.size_alloc]; omega)]
      exact hat _ _ _ rfl
    have RZ : Hid (w0.heap[g + 1]? = some (.cells #[.int .i64 z0.k, .int .i64 z0.n, .string z0.s, .int .i64 z1.k, .int .i64 z1.n, .string z1.s] 46)) := by
      show _ = _
      rw [hw0, hg]
      rw [Below.heap_alloc _ _ _ (by simp only [World.size_alloc]; omega)]
      exact hat _ _ _ (by simp only [World.size_alloc])
    have RK : Hid (w0.heap[g + 2]? = some (.cells #[.slice E p pc, .slice F q qc, .slice D s sc] 47)) := by
      show _ = _
      rw [hw0, hg]
      skip
      exact hat _ _ _ (by simp only [World.size_alloc])
    replace RD := Lib.hid (RD.out.below bb)
    replace R0 := Lib.hid (R0.out.below bb)
    replace R1 := Lib.hid (R1.out.below bb)
    replace R2 := Lib.hid (R2.out.below bb)
    replace HB := Lib.hid (below_then HB.out bb)
    clear bb hg hw0 hat
    go_enter Try.func8, Try.ntmps8
    go_upto_region 1 with fail
    rw [← HG.out]
    rw [show (((w.alloc (Obj.cells #[Value.int .i64 k, .int .i64 u.k, .int .i64 u.n, .string u.s, .slice A n c] 26)).alloc (Obj.cells #[Value.int .i64 z0.k, .int .i64 z0.n, .string z0.s, .int .i64 z1.k, .int .i64 z1.n, .string z1.s] 46)).alloc (Obj.cells #[Value.slice E p pc, .slice F q qc, .slice D s sc] 47)) = w0 from HW0.out.symm]
    clear HW0
    obtain ⟨RX0, RX1, RX2, RX3, RX4⟩ := cell_row5 RX.out
    go_wp2_with fail
    refine (FW.out _).mono ?_
    rintro e v1 ⟨rfl, bb⟩
    replace RX := Lib.hid (row_below RX.out bb)
    replace RZ := Lib.hid (row_below RZ.out bb)
    replace RK := Lib.hid (row_below RK.out bb)
    replace RD := Lib.hid (RD.out.below bb)
    replace R0 := Lib.hid (R0.out.below bb)
    replace R1 := Lib.hid (R1.out.below bb)
    replace R2 := Lib.hid (R2.out.below bb)
    replace HB := Lib.hid (below_then HB.out bb)
    clear bb
    clear RX0 RX1 RX2 RX3 RX4
    have RK0 := cell_row RK.out 0
    have RK1 := cell_row RK.out 1
    have RK2 := cell_row RK.out 2
    simp only [List.getElem?_toArray, List.getElem?_cons_zero, List.getElem?_cons_succ] at RK0 RK1 RK2
    go_wp2_with fail
    refine (V1.out _ R0.out).mono ?_
    rintro e v2 ⟨rfl, bb⟩
    replace RX := Lib.hid (row_below RX.out bb)
    replace RZ := Lib.hid (row_below RZ.out bb)
    replace RK := Lib.hid (row_below RK.out bb)
    replace RD := Lib.hid (RD.out.below bb)
    replace R0 := Lib.hid (R0.out.below bb)
    replace R1 := Lib.hid (R1.out.below bb)
    replace R2 := Lib.hid (R2.out.below bb)
    replace HB := Lib.hid (below_then HB.out bb)
    clear bb
    clear RK0 RK1 RK2
    obtain ⟨RX0, RX1, RX2, RX3, RX4⟩ := cell_row5 RX.out
    go_wp2_with fail
    refine (CR.out _ RD.out).mono ?_
    rintro e v3 ⟨rfl, bb⟩
    replace RX := Lib.hid (row_below RX.out bb)
    replace RZ := Lib.hid (row_below RZ.out bb)
    replace RK := Lib.hid (row_below RK.out bb)
    replace RD := Lib.hid (RD.out.below bb)
    replace R0 := Lib.hid (R0.out.below bb)
    replace R1 := Lib.hid (R1.out.below bb)
    replace R2 := Lib.hid (R2.out.below bb)
    replace HB := Lib.hid (below_then HB.out bb)
    clear bb
    clear RX0 RX1 RX2 RX3 RX4
    go_wp2_with fail
    refine (alive7_any _).mono ?_
    rintro e v4 ⟨rfl, bb⟩
    replace RX := Lib.hid (row_below RX.out bb)
    replace RZ := Lib.hid (row_below RZ.out bb)
    replace RK := Lib.hid (row_below RK.out bb)
    replace RD := Lib.hid (RD.out.below bb)
    replace R0 := Lib.hid (R0.out.below bb)
    replace R1 := Lib.hid (R1.out.below bb)
    replace R2 := Lib.hid (R2.out.below bb)
    replace HB := Lib.hid (below_then HB.out bb)
    clear bb
    go_wp2_with fail
    go_ret
    exact ⟨rfl, HB.out⟩
  | true =>
  cases r3 with
  | false =>
    have FW : Hid (∀ W : World, Calls Try.prog 15 #[cellV k u (.slice A n c)] W fun e w' => e = .returned (.bool true) ∧ Below W.heap.size W w') := by
      intro W
      have := refFew_any k u A n c W
      rwa [decide_eq_true (by omega)] at this
    have hp1 : ¬ (60 : Int) < (p : Int) := by omega
    clear hn hp
    obtain ⟨g, hg⟩ : ∃ g, g = w.heap.size := ⟨_, rfl⟩
    obtain ⟨w0, hw0⟩ : ∃ w1, w1 = (((w.alloc (cellRow k u (.slice A n c))).alloc (.cells #[.int .i64 z0.k, .int .i64 z0.n, .string z0.s, .int .i64 z1.k, .int .i64 z1.n, .string z1.s] 46)).alloc (.cells #[.slice E p pc, .slice F q qc, .slice D s sc] 47)) := ⟨_, rfl⟩
    have HW0 := Lib.hid hw0; have HG := Lib.hid hg
    have hat : ∀ (w : World) (o : Obj) (g : Nat), w.heap.size = g → (w.alloc o).heap[g]? = some o := fun w o g h => by subst h; exact heap_alloc_new _ _
    have bb : Below w.heap.size w w0 := by rw [hw0]; exact below_new (below_new (below_new (Below.refl _ _) _) _) _
    have RX : Hid (w0.heap[g]? = some (cellRow k u (.slice A n c))) := by
      show _ = _
      rw [hw0, hg]
      rw [Below.heap_alloc _ _ _ (by simp only [World.size_alloc]; omega), Below.heap_alloc _ _ _ (by simp only [World.size_alloc]; omega)]
      exact hat _ _ _ rfl
    have RZ : Hid (w0.heap[g + 1]? = some (.cells #[.int .i64 z0.k, .int .i64 z0.n, .string z0.s, .int .i64 z1.k, .int .i64 z1.n, .string z1.s] 46)) := by
      show _ = _
      rw [hw0, hg]
      rw [Below.heap_alloc _ _ _ (by simp only [World.size_alloc]; omega)]
      exact hat _ _ _ (by simp only [World.size_alloc])
    have RK : Hid (w0.heap[g + 2]? = some (.cells #[.slice E p pc, .slice F q qc, .slice D s sc] 47)) := by
      show _ = _
      rw [hw0, hg]
      skip
      exact hat _ _ _ (by simp only [World.size_alloc])
    replace RD := Lib.hid (RD.out.below bb)
    replace R0 := Lib.hid (R0.out.below bb)
    replace R1 := Lib.hid (R1.out.below bb)
    replace R2 := Lib.hid (R2.out.below bb)
    replace HB := Lib.hid (below_then HB.out bb)
    clear bb hg hw0 hat
    go_enter Try.func8, Try.ntmps8
    go_upto_region 1 with fail
    rw [← HG.out]
    rw [show (((w.alloc (Obj.cells #[Value.int .i64 k, .int .i64 u.k, .int .i64 u.n, .string u.s, .slice A n c] 26)).alloc (Obj.cells #[Value.int .i64 z0.k, .int .i64 z0.n, .string z0.s, .int .i64 z1.k, .int .i64 z1.n, .string z1.s] 46)).alloc (Obj.cells #[Value.slice E p pc, .slice F q qc, .slice D s sc] 47)) = w0 from HW0.out.symm]
    clear HW0
    obtain ⟨RX0, RX1, RX2, RX3, RX4⟩ := cell_row5 RX.out
    go_wp2_with fail
    refine (FW.out _).mono ?_
    rintro e v1 ⟨rfl, bb⟩
    replace RX := Lib.hid (row_below RX.out bb)
    replace RZ := Lib.hid (row_below RZ.out bb)
    replace RK := Lib.hid (row_below RK.out bb)
    replace RD := Lib.hid (RD.out.below bb)
    replace R0 := Lib.hid (R0.out.below bb)
    replace R1 := Lib.hid (R1.out.below bb)
    replace R2 := Lib.hid (R2.out.below bb)
    replace HB := Lib.hid (below_then HB.out bb)
    clear bb
    clear RX0 RX1 RX2 RX3 RX4
    have RK0 := cell_row RK.out 0
    have RK1 := cell_row RK.out 1
    have RK2 := cell_row RK.out 2
    simp only [List.getElem?_toArray, List.getElem?_cons_zero, List.getElem?_cons_succ] at RK0 RK1 RK2
    go_wp2_with fail
    refine (V1.out _ R0.out).mono ?_
    rintro e v2 ⟨rfl, bb⟩
    replace RX := Lib.hid (row_below RX.out bb)
    replace RZ := Lib.hid (row_below RZ.out bb)
    replace RK := Lib.hid (row_below RK.out bb)
    replace RD := Lib.hid (RD.out.below bb)
    replace R0 := Lib.hid (R0.out.below bb)
    replace R1 := Lib.hid (R1.out.below bb)
    replace R2 := Lib.hid (R2.out.below bb)
    replace HB := Lib.hid (below_then HB.out bb)
    clear bb
    clear RK0 RK1 RK2
    obtain ⟨RX0, RX1, RX2, RX3, RX4⟩ := cell_row5 RX.out
    go_wp2_with fail
    refine (CR.out _ RD.out).mono ?_
    rintro e v3 ⟨rfl, bb⟩
    replace RX := Lib.hid (row_below RX.out bb)
    replace RZ := Lib.hid (row_below RZ.out bb)
    replace RK := Lib.hid (row_below RK.out bb)
    replace RD := Lib.hid (RD.out.below bb)
    replace R0 := Lib.hid (R0.out.below bb)
    replace R1 := Lib.hid (R1.out.below bb)
    replace R2 := Lib.hid (R2.out.below bb)
    replace HB := Lib.hid (below_then HB.out bb)
    clear bb
    clear RX0 RX1 RX2 RX3 RX4
    have RK0 := cell_row RK.out 0
    have RK1 := cell_row RK.out 1
    have RK2 := cell_row RK.out 2
    simp only [List.getElem?_toArray, List.getElem?_cons_zero, List.getElem?_cons_succ] at RK0 RK1 RK2
    go_wp2_with fail
    refine (U1.out _ R1.out R0.out).mono ?_
    rintro e v4 ⟨rfl, bb⟩
    replace RX := Lib.hid (row_below RX.out bb)
    replace RZ := Lib.hid (row_below RZ.out bb)
    replace RK := Lib.hid (row_below RK.out bb)
    replace RD := Lib.hid (RD.out.below bb)
    replace R0 := Lib.hid (R0.out.below bb)
    replace R1 := Lib.hid (R1.out.below bb)
    replace R2 := Lib.hid (R2.out.below bb)
    replace HB := Lib.hid (below_then HB.out bb)
    clear bb
    clear RK0 RK1 RK2
    go_wp2_with fail
    refine (alive7_any _).mono ?_
    rintro e v5 ⟨rfl, bb⟩
    replace RX := Lib.hid (row_below RX.out bb)
    replace RZ := Lib.hid (row_below RZ.out bb)
    replace RK := Lib.hid (row_below RK.out bb)
    replace RD := Lib.hid (RD.out.below bb)
    replace R0 := Lib.hid (R0.out.below bb)
    replace R1 := Lib.hid (R1.out.below bb)
    replace R2 := Lib.hid (R2.out.below bb)
    replace HB := Lib.hid (below_then HB.out bb)
    clear bb
    go_wp2_with fail
    go_ret
    exact ⟨rfl, HB.out⟩
  | true =>
  cases r4 with
  | false =>
    have FW : Hid (∀ W : World, Calls Try.prog 15 #[cellV k u (.slice A n c)] W fun e w' => e = .returned (.bool true) ∧ Below W.heap.size W w') := by
      intro W
      have := refFew_any k u A n c W
      rwa [decide_eq_true (by omega)] at this
    have hp1 : ¬ (60 : Int) < (p : Int) := by omega
    clear hn hp
    obtain ⟨g, hg⟩ : ∃ g, g = w.heap.size := ⟨_, rfl⟩
    obtain ⟨w0, hw0⟩ : ∃ w1, w1 = (((w.alloc (cellRow k u (.slice A n c))).alloc (.cells #[.int .i64 z0.k, .int .i64 z0.n, .string z0.s, .int .i64 z1.k, .int .i64 z1.n, .string z1.s] 46)).alloc (.cells #[.slice E p pc, .slice F q qc, .slice D s sc] 47)) := ⟨_, rfl⟩
    have HW0 := Lib.hid hw0; have HG := Lib.hid hg
    have hat : ∀ (w : World) (o : Obj) (g : Nat), w.heap.size = g → (w.alloc o).heap[g]? = some o := fun w o g h => by subst h; exact heap_alloc_new _ _
    have bb : Below w.heap.size w w0 := by rw [hw0]; exact below_new (below_new (below_new (Below.refl _ _) _) _) _
    have RX : Hid (w0.heap[g]? = some (cellRow k u (.slice A n c))) := by
      show _ = _
      rw [hw0, hg]
      rw [Below.heap_alloc _ _ _ (by simp only [World.size_alloc]; omega), Below.heap_alloc _ _ _ (by simp only [World.size_alloc]; omega)]
      exact hat _ _ _ rfl
    have RZ : Hid (w0.heap[g + 1]? = some (.cells #[.int .i64 z0.k, .int .i64 z0.n, .string z0.s, .int .i64 z1.k, .int .i64 z1.n, .string z1.s] 46)) := by
      show _ = _
      rw [hw0, hg]
      rw [Below.heap_alloc _ _ _ (by simp only [World.size_alloc]; omega)]
      exact hat _ _ _ (by simp only [World.size_alloc])
    have RK : Hid (w0.heap[g + 2]? = some (.cells #[.slice E p pc, .slice F q qc, .slice D s sc] 47)) := by
      show _ = _
      rw [hw0, hg]
      skip
      exact hat _ _ _ (by simp only [World.size_alloc])
    replace RD := Lib.hid (RD.out.below bb)
    replace R0 := Lib.hid (R0.out.below bb)
    replace R1 := Lib.hid (R1.out.below bb)
    replace R2 := Lib.hid (R2.out.below bb)
    replace HB := Lib.hid (below_then HB.out bb)
    clear bb hg hw0 hat
    go_enter Try.func8, Try.ntmps8
    go_upto_region 1 with fail
    rw [← HG.out]
    rw [show (((w.alloc (Obj.cells #[Value.int .i64 k, .int .i64 u.k, .int .i64 u.n, .string u.s, .slice A n c] 26)).alloc (Obj.cells #[Value.int .i64 z0.k, .int .i64 z0.n, .string z0.s, .int .i64 z1.k, .int .i64 z1.n, .string z1.s] 46)).alloc (Obj.cells #[Value.slice E p pc, .slice F q qc, .slice D s sc] 47)) = w0 from HW0.out.symm]
    clear HW0
    obtain ⟨RX0, RX1, RX2, RX3, RX4⟩ := cell_row5 RX.out
    go_wp2_with fail
    refine (FW.out _).mono ?_
    rintro e v1 ⟨rfl, bb⟩
    replace RX := Lib.hid (row_below RX.out bb)
    replace RZ := Lib.hid (row_below RZ.out bb)
    replace RK := Lib.hid (row_below RK.out bb)
    replace RD := Lib.hid (RD.out.below bb)
    replace R0 := Lib.hid (R0.out.below bb)
    replace R1 := Lib.hid (R1.out.below bb)
    replace R2 := Lib.hid (R2.out.below bb)
    replace HB := Lib.hid (below_then HB.out bb)
    clear bb
    clear RX0 RX1 RX2 RX3 RX4
    have RK0 := cell_row RK.out 0
    have RK1 := cell_row RK.out 1
    have RK2 := cell_row RK.out 2
    simp only [List.getElem?_toArray, List.getElem?_cons_zero, List.getElem?_cons_succ] at RK0 RK1 RK2
    go_wp2_with fail
    refine (V1.out _ R0.out).mono ?_
    rintro e v2 ⟨rfl, bb⟩
    replace RX := Lib.hid (row_below RX.out bb)
    replace RZ := Lib.hid (row_below RZ.out bb)
    replace RK := Lib.hid (row_below RK.out bb)
    replace RD := Lib.hid (RD.out.below bb)
    replace R0 := Lib.hid (R0.out.below bb)
    replace R1 := Lib.hid (R1.out.below bb)
    replace R2 := Lib.hid (R2.out.below bb)
    replace HB := Lib.hid (below_then HB.out bb)
    clear bb
    clear RK0 RK1 RK2
    obtain ⟨RX0, RX1, RX2, RX3, RX4⟩ := cell_row5 RX.out
    go_wp2_with fail
    refine (CR.out _ RD.out).mono ?_
    rintro e v3 ⟨rfl, bb⟩
    replace RX := Lib.hid (row_below RX.out bb)
    replace RZ := Lib.hid (row_below RZ.out bb)
    replace RK := Lib.hid (row_below RK.out bb)
    replace RD := Lib.hid (RD.out.below bb)
    replace R0 := Lib.hid (R0.out.below bb)
    replace R1 := Lib.hid (R1.out.below bb)
    replace R2 := Lib.hid (R2.out.below bb)
    replace HB := Lib.hid (below_then HB.out bb)
    clear bb
    clear RX0 RX1 RX2 RX3 RX4
    have RK0 := cell_row RK.out 0
    have RK1 := cell_row RK.out 1
    have RK2 := cell_row RK.out 2
    simp only [List.getElem?_toArray, List.getElem?_cons_zero, List.getElem?_cons_succ] at RK0 RK1 RK2
    go_wp2_with fail
    refine (U1.out _ R1.out R0.out).mono ?_
    rintro e v4 ⟨rfl, bb⟩
    replace RX := Lib.hid (row_below RX.out bb)
    replace RZ := Lib.hid (row_below RZ.out bb)
    replace RK := Lib.hid (row_below RK.out bb)
    replace RD := Lib.hid (RD.out.below bb)
    replace R0 := Lib.hid (R0.out.below bb)
    replace R1 := Lib.hid (R1.out.below bb)
    replace R2 := Lib.hid (R2.out.below bb)
    replace HB := Lib.hid (below_then HB.out bb)
    clear bb
    clear RK0 RK1 RK2
    have RK0 := cell_row RK.out 0
    have RK1 := cell_row RK.out 1
    have RK2 := cell_row RK.out 2
    simp only [List.getElem?_toArray, List.getElem?_cons_zero, List.getElem?_cons_succ] at RK0 RK1 RK2
    go_wp2_with fail
    refine (U2.out _ R2.out R0.out).mono ?_
    rintro e v5 ⟨rfl, bb⟩
    replace RX := Lib.hid (row_below RX.out bb)
    replace RZ := Lib.hid (row_below RZ.out bb)
    replace RK := Lib.hid (row_below RK.out bb)
    replace RD := Lib.hid (RD.out.below bb)
    replace R0 := Lib.hid (R0.out.below bb)
    replace R1 := Lib.hid (R1.out.below bb)
    replace R2 := Lib.hid (R2.out.below bb)
    replace HB := Lib.hid (below_then HB.out bb)
    clear bb
    clear RK0 RK1 RK2
    go_wp2_with fail
    refine (alive7_any _).mono ?_
    rintro e v6 ⟨rfl, bb⟩
    replace RX := Lib.hid (row_below RX.out bb)
    replace RZ := Lib.hid (row_below RZ.out bb)
    replace RK := Lib.hid (row_below RK.out bb)
    replace RD := Lib.hid (RD.out.below bb)
    replace R0 := Lib.hid (R0.out.below bb)
    replace R1 := Lib.hid (R1.out.below bb)
    replace R2 := Lib.hid (R2.out.below bb)
    replace HB := Lib.hid (below_then HB.out bb)
    clear bb
    go_wp2_with fail
    go_ret
    exact ⟨rfl, HB.out⟩
  | true =>
  by_cases hq : q ≤ 100
  rotate_left
  · have FW : Hid (∀ W : World, Calls Try.prog 15 #[cellV k u (.slice A n c)] W fun e w' => e = .returned (.bool true) ∧ Below W.heap.size W w') := by
      intro W
      have := refFew_any k u A n c W
      rwa [decide_eq_true (by omega)] at this
    have hp1 : ¬ (60 : Int) < (p : Int) := by omega
    have hq1 : (100 : Int) < (q : Int) := by omega
    clear hn hp hq
    obtain ⟨g, hg⟩ : ∃ g, g = w.heap.size := ⟨_, rfl⟩
    obtain ⟨w0, hw0⟩ : ∃ w1, w1 = (((w.alloc (cellRow k u (.slice A n c))).alloc (.cells #[.int .i64 z0.k, .int .i64 z0.n, .string z0.s, .int .i64 z1.k, .int .i64 z1.n, .string z1.s] 46)).alloc (.cells #[.slice E p pc, .slice F q qc, .slice D s sc] 47)) := ⟨_, rfl⟩
    have HW0 := Lib.hid hw0; have HG := Lib.hid hg
    have hat : ∀ (w : World) (o : Obj) (g : Nat), w.heap.size = g → (w.alloc o).heap[g]? = some o := fun w o g h => by subst h; exact heap_alloc_new _ _
    have bb : Below w.heap.size w w0 := by rw [hw0]; exact below_new (below_new (below_new (Below.refl _ _) _) _) _
    have RX : Hid (w0.heap[g]? = some (cellRow k u (.slice A n c))) := by
      show _ = _
      rw [hw0, hg]
      rw [Below.heap_alloc _ _ _ (by simp only [World.size_alloc]; omega), Below.heap_alloc _ _ _ (by simp only [World.size_alloc]; omega)]
      exact hat _ _ _ rfl
    have RZ : Hid (w0.heap[g + 1]? = some (.cells #[.int .i64 z0.k, .int .i64 z0.n, .string z0.s, .int .i64 z1.k, .int .i64 z1.n, .string z1.s] 46)) := by
      show _ = _
      rw [hw0, hg]
      rw [Below.heap_alloc _ _ _ (by simp only [World.size_alloc]; omega)]
      exact hat _ _ _ (by simp only [World.size_alloc])
    have RK : Hid (w0.heap[g + 2]? = some (.cells #[.slice E p pc, .slice F q qc, .slice D s sc] 47)) := by
      show _ = _
      rw [hw0, hg]
      skip
      exact hat _ _ _ (by simp only [World.size_alloc])
    replace RD := Lib.hid (RD.out.below bb)
    replace R0 := Lib.hid (R0.out.below bb)
    replace R1 := Lib.hid (R1.out.below bb)
    replace R2 := Lib.hid (R2.out.below bb)
    replace HB := Lib.hid (below_then HB.out bb)
    clear bb hg hw0 hat
    go_enter Try.func8, Try.ntmps8
    go_upto_region 1 with fail
    rw [← HG.out]
    rw [show (((w.alloc (Obj.cells #[Value.int .i64 k, .int .i64 u.k, .int .i64 u.n, .string u.s, .slice A n c] 26)).alloc (Obj.cells #[Value.int .i64 z0.k, .int .i64 z0.n, .string z0.s, .int .i64 z1.k, .int .i64 z1.n, .string z1.s] 46)).alloc (Obj.cells #[Value.slice E p pc, .slice F q qc, .slice D s sc] 47)) = w0 from HW0.out.symm]
    clear HW0
    obtain ⟨RX0, RX1, RX2, RX3, RX4⟩ := cell_row5 RX.out
    go_wp2_with fail
    refine (FW.out _).mono ?_
    rintro e v1 ⟨rfl, bb⟩
    replace RX := Lib.hid (row_below RX.out bb)
    replace RZ := Lib.hid (row_below RZ.out bb)
    replace RK := Lib.hid (row_below RK.out bb)
    replace RD := Lib.hid (RD.out.below bb)
    replace R0 := Lib.hid (R0.out.below bb)
    replace R1 := Lib.hid (R1.out.below bb)
    replace R2 := Lib.hid (R2.out.below bb)
    replace HB := Lib.hid (below_then HB.out bb)
    clear bb
    clear RX0 RX1 RX2 RX3 RX4
    have RK0 := cell_row RK.out 0
    have RK1 := cell_row RK.out 1
    have RK2 := cell_row RK.out 2
    simp only [List.getElem?_toArray, List.getElem?_cons_zero, List.getElem?_cons_succ] at RK0 RK1 RK2
    go_wp2_with fail
    refine (V1.out _ R0.out).mono ?_
    rintro e v2 ⟨rfl, bb⟩
    replace RX := Lib.hid (row_below RX.out bb)
    replace RZ := Lib.hid (row_below RZ.out bb)
    replace RK := Lib.hid (row_below RK.out bb)
    replace RD := Lib.hid (RD.out.below bb)
    replace R0 := Lib.hid (R0.out.below bb)
    replace R1 := Lib.hid (R1.out.below bb)
    replace R2 := Lib.hid (R2.out.below bb)
    replace HB := Lib.hid (below_then HB.out bb)
    clear bb
    clear RK0 RK1 RK2
    obtain ⟨RX0, RX1, RX2, RX3, RX4⟩ := cell_row5 RX.out
    go_wp2_with fail
    refine (CR.out _ RD.out).mono ?_
    rintro e v3 ⟨rfl, bb⟩
    replace RX := Lib.hid (row_below RX.out bb)
    replace RZ := Lib.hid (row_below RZ.out bb)
    replace RK := Lib.hid (row_below RK.out bb)
    replace RD := Lib.hid (RD.out.below bb)
    replace R0 := Lib.hid (R0.out.below bb)
    replace R1 := Lib.hid (R1.out.below bb)
    replace R2 := Lib.hid (R2.out.below bb)
    replace HB := Lib.hid (below_then HB.out bb)
    clear bb
    clear RX0 RX1 RX2 RX3 RX4
    have RK0 := cell_row RK.out 0
    have RK1 := cell_row RK.out 1
    have RK2 := cell_row RK.out 2
    simp only [List.getElem?_toArray, List.getElem?_cons_zero, List.getElem?_cons_succ] at RK0 RK1 RK2
    go_wp2_with fail
    refine (U1.out _ R1.out R0.out).mono ?_
    rintro e v4 ⟨rfl, bb⟩
    replace RX := Lib.hid (row_below RX.out bb)
    replace RZ := Lib.hid (row_below RZ.out bb)
    replace RK := Lib.hid (row_below RK.out bb)
    replace RD := Lib.hid (RD.out.below bb)
    replace R0 := Lib.hid (R0.out.below bb)
    replace R1 := Lib.hid (R1.out.below bb)
    replace R2 := Lib.hid (R2.out.below bb)
    replace HB := Lib.hid (below_then HB.out bb)
    clear bb
    clear RK0 RK1 RK2
    have RK0 := cell_row RK.out 0
    have RK1 := cell_row RK.out 1
    have RK2 := cell_row RK.out 2
    simp only [List.getElem?_toArray, List.getElem?_cons_zero, List.getElem?_cons_succ] at RK0 RK1 RK2
    go_wp2_with fail
    refine (U2.out _ R2.out R0.out).mono ?_
    rintro e v5 ⟨rfl, bb⟩
    replace RX := Lib.hid (row_below RX.out bb)
    replace RZ := Lib.hid (row_below RZ.out bb)
    replace RK := Lib.hid (row_below RK.out bb)
    replace RD := Lib.hid (RD.out.below bb)
    replace R0 := Lib.hid (R0.out.below bb)
    replace R1 := Lib.hid (R1.out.below bb)
    replace R2 := Lib.hid (R2.out.below bb)
    replace HB := Lib.hid (below_then HB.out bb)
    clear bb
    clear RK0 RK1 RK2
    have RK0 := cell_row RK.out 0
    have RK1 := cell_row RK.out 1
    have RK2 := cell_row RK.out 2
    simp only [List.getElem?_toArray, List.getElem?_cons_zero, List.getElem?_cons_succ] at RK0 RK1 RK2
    go_wp2_with fail
    refine (alive7_any _).mono ?_
    rintro e v6 ⟨rfl, bb⟩
    replace RX := Lib.hid (row_below RX.out bb)
    replace RZ := Lib.hid (row_below RZ.out bb)
    replace RK := Lib.hid (row_below RK.out bb)
    replace RD := Lib.hid (RD.out.below bb)
    replace R0 := Lib.hid (R0.out.below bb)
    replace R1 := Lib.hid (R1.out.below bb)
    replace R2 := Lib.hid (R2.out.below bb)
    replace HB := Lib.hid (below_then HB.out bb)
    clear bb
    go_wp2_with fail
    go_ret
    exact ⟨rfl, HB.out⟩
  by_cases hs : s ≤ 100
  rotate_left
  · have FW : Hid (∀ W : World, Calls Try.prog 15 #[cellV k u (.slice A n c)] W fun e w' => e = .returned (.bool true) ∧ Below W.heap.size W w') := by
      intro W
      have := refFew_any k u A n c W
      rwa [decide_eq_true (by omega)] at this
    have hp1 : ¬ (60 : Int) < (p : Int) := by omega
    have hq1 : ¬ (100 : Int) < (q : Int) := by omega
    have hs1 : (100 : Int) < (s : Int) := by omega
    clear hn hp hq hs
    obtain ⟨g, hg⟩ : ∃ g, g = w.heap.size := ⟨_, rfl⟩
    obtain ⟨w0, hw0⟩ : ∃ w1, w1 = (((w.alloc (cellRow k u (.slice A n c))).alloc (.cells #[.int .i64 z0.k, .int .i64 z0.n, .string z0.s, .int .i64 z1.k, .int .i64 z1.n, .string z1.s] 46)).alloc (.cells #[.slice E p pc, .slice F q qc, .slice D s sc] 47)) := ⟨_, rfl⟩
    have HW0 := Lib.hid hw0; have HG := Lib.hid hg
    have hat : ∀ (w : World) (o : Obj) (g : Nat), w.heap.size = g → (w.alloc o).heap[g]? = some o := fun w o g h => by subst h; exact heap_alloc_new _ _
    have bb : Below w.heap.size w w0 := by rw [hw0]; exact below_new (below_new (below_new (Below.refl _ _) _) _) _
    have RX : Hid (w0.heap[g]? = some (cellRow k u (.slice A n c))) := by
      show _ = _
      rw [hw0, hg]
      rw [Below.heap_alloc _ _ _ (by simp only [World.size_alloc]; omega), Below.heap_alloc _ _ _ (by simp only [World.size_alloc]; omega)]
      exact hat _ _ _ rfl
    have RZ : Hid (w0.heap[g + 1]? = some (.cells #[.int .i64 z0.k, .int .i64 z0.n, .string z0.s, .int .i64 z1.k, .int .i64 z1.n, .string z1.s] 46)) := by
      show _ = _
      rw [hw0, hg]
      rw [Below.heap_alloc _ _ _ (by simp only [World.size_alloc]; omega)]
      exact hat _ _ _ (by simp only [World.size_alloc])
    have RK : Hid (w0.heap[g + 2]? = some (.cells #[.slice E p pc, .slice F q qc, .slice D s sc] 47)) := by
      show _ = _
      rw [hw0, hg]
      skip
      exact hat _ _ _ (by simp only [World.size_alloc])
    replace RD := Lib.hid (RD.out.below bb)
    replace R0 := Lib.hid (R0.out.below bb)
    replace R1 := Lib.hid (R1.out.below bb)
    replace R2 := Lib.hid (R2.out.below bb)
    replace HB := Lib.hid (below_then HB.out bb)
    clear bb hg hw0 hat
    go_enter Try.func8, Try.ntmps8
    go_upto_region 1 with fail
    rw [← HG.out]
    rw [show (((w.alloc (Obj.cells #[Value.int .i64 k, .int .i64 u.k, .int .i64 u.n, .string u.s, .slice A n c] 26)).alloc (Obj.cells #[Value.int .i64 z0.k, .int .i64 z0.n, .string z0.s, .int .i64 z1.k, .int .i64 z1.n, .string z1.s] 46)).alloc (Obj.cells #[Value.slice E p pc, .slice F q qc, .slice D s sc] 47)) = w0 from HW0.out.symm]
    clear HW0
    obtain ⟨RX0, RX1, RX2, RX3, RX4⟩ := cell_row5 RX.out
    go_wp2_with fail
    refine (FW.out _).mono ?_
    rintro e v1 ⟨rfl, bb⟩
    replace RX := Lib.hid (row_below RX.out bb)
    replace RZ := Lib.hid (row_below RZ.out bb)
    replace RK := Lib.hid (row_below RK.out bb)
    replace RD := Lib.hid (RD.out.below bb)
    replace R0 := Lib.hid (R0.out.below bb)
    replace R1 := Lib.hid (R1.out.below bb)
    replace R2 := Lib.hid (R2.out.below bb)
    replace HB := Lib.hid (below_then HB.out bb)
    clear bb
    clear RX0 RX1 RX2 RX3 RX4
    have RK0 := cell_row RK.out 0
    have RK1 := cell_row RK.out 1
    have RK2 := cell_row RK.out 2
    simp only [List.getElem?_toArray, List.getElem?_cons_zero, List.getElem?_cons_succ] at RK0 RK1 RK2
    go_wp2_with fail
    refine (V1.out _ R0.out).mono ?_
    rintro e v2 ⟨rfl, bb⟩
    replace RX := Lib.hid (row_below RX.out bb)
    replace RZ := Lib.hid (row_below RZ.out bb)
    replace RK := Lib.hid (row_below RK.out bb)
    replace RD := Lib.hid (RD.out.below bb)
    replace R0 := Lib.hid (R0.out.below bb)
    replace R1 := Lib.hid (R1.out.below bb)
    replace R2 := Lib.hid (R2.out.below bb)
    replace HB := Lib.hid (below_then HB.out bb)
    clear bb
    clear RK0 RK1 RK2
    obtain ⟨RX0, RX1, RX2, RX3, RX4⟩ := cell_row5 RX.out
    go_wp2_with fail
    refine (CR.out _ RD.out).mono ?_
    rintro e v3 ⟨rfl, bb⟩
    replace RX := Lib.hid (row_below RX.out bb)
    replace RZ := Lib.hid (row_below RZ.out bb)
    replace RK := Lib.hid (row_below RK.out bb)
    replace RD := Lib.hid (RD.out.below bb)
    replace R0 := Lib.hid (R0.out.below bb)
    replace R1 := Lib.hid (R1.out.below bb)
    replace R2 := Lib.hid (R2.out.below bb)
    replace HB := Lib.hid (below_then HB.out bb)
    clear bb
    clear RX0 RX1 RX2 RX3 RX4
    have RK0 := cell_row RK.out 0
    have RK1 := cell_row RK.out 1
    have RK2 := cell_row RK.out 2
    simp only [List.getElem?_toArray, List.getElem?_cons_zero, List.getElem?_cons_succ] at RK0 RK1 RK2
    go_wp2_with fail
    refine (U1.out _ R1.out R0.out).mono ?_
    rintro e v4 ⟨rfl, bb⟩
    replace RX := Lib.hid (row_below RX.out bb)
    replace RZ := Lib.hid (row_below RZ.out bb)
    replace RK := Lib.hid (row_below RK.out bb)
    replace RD := Lib.hid (RD.out.below bb)
    replace R0 := Lib.hid (R0.out.below bb)
    replace R1 := Lib.hid (R1.out.below bb)
    replace R2 := Lib.hid (R2.out.below bb)
    replace HB := Lib.hid (below_then HB.out bb)
    clear bb
    clear RK0 RK1 RK2
    have RK0 := cell_row RK.out 0
    have RK1 := cell_row RK.out 1
    have RK2 := cell_row RK.out 2
    simp only [List.getElem?_toArray, List.getElem?_cons_zero, List.getElem?_cons_succ] at RK0 RK1 RK2
    go_wp2_with fail
    refine (U2.out _ R2.out R0.out).mono ?_
    rintro e v5 ⟨rfl, bb⟩
    replace RX := Lib.hid (row_below RX.out bb)
    replace RZ := Lib.hid (row_below RZ.out bb)
    replace RK := Lib.hid (row_below RK.out bb)
    replace RD := Lib.hid (RD.out.below bb)
    replace R0 := Lib.hid (R0.out.below bb)
    replace R1 := Lib.hid (R1.out.below bb)
    replace R2 := Lib.hid (R2.out.below bb)
    replace HB := Lib.hid (below_then HB.out bb)
    clear bb
    clear RK0 RK1 RK2
    have RK0 := cell_row RK.out 0
    have RK1 := cell_row RK.out 1
    have RK2 := cell_row RK.out 2
    simp only [List.getElem?_toArray, List.getElem?_cons_zero, List.getElem?_cons_succ] at RK0 RK1 RK2
    go_wp2_with fail
    refine (alive7_any _).mono ?_
    rintro e v6 ⟨rfl, bb⟩
    replace RX := Lib.hid (row_below RX.out bb)
    replace RZ := Lib.hid (row_below RZ.out bb)
    replace RK := Lib.hid (row_below RK.out bb)
    replace RD := Lib.hid (RD.out.below bb)
    replace R0 := Lib.hid (R0.out.below bb)
    replace R1 := Lib.hid (R1.out.below bb)
    replace R2 := Lib.hid (R2.out.below bb)
    replace HB := Lib.hid (below_then HB.out bb)
    clear bb
    go_wp2_with fail
    go_ret
    exact ⟨rfl, HB.out⟩
  obtain ⟨⟨hk1, hu0⟩, _, hrise⟩ := rightC_iff.1 hr2.out
  obtain rfl : u = zeroVal := hu0
  subst hk1
  have FW : Hid (∀ W : World, Calls Try.prog 15 #[cellV 1 zeroVal (.slice A n c)] W fun e w' => e = .returned (.bool true) ∧ Below W.heap.size W w') := by
    intro W
    have := refFew_any 1 zeroVal A n c W
    rwa [decide_eq_true (by omega)] at this
  have hp1 : ¬ (60 : Int) < (p : Int) := by omega
  have hq1 : ¬ (100 : Int) < (q : Int) := by omega
  have hs1 : ¬ (100 : Int) < (s : Int) := by omega
  have HRI := Lib.hid hrise
  obtain ⟨D1, hD1⟩ : ∃ d, Hid (d = ofV a0 1 + 1) := ⟨_, rfl⟩
  obtain ⟨E1, hE1⟩ : ∃ d, Hid (d = ofV a0 2 + 1) := ⟨_, rfl⟩
  have hwD : IntKind.i64.wrap (ofV a0 1 + 1) = D1 := by rw [hD1.out]; exact wrap_is (by have := right_ofV hr1.out 1; omega)
  have hwE : IntKind.i64.wrap (ofV a0 2 + 1) = E1 := by rw [hE1.out]; exact wrap_is (by have := right_ofV hr1.out 2; omega)
  have hn6 : n ≤ 60 := hn
  have HP60 := Lib.hid hp
  clear hn hp hq hs hrise
  obtain ⟨g, hg⟩ : ∃ g, g = w.heap.size := ⟨_, rfl⟩
  obtain ⟨w0, hw0⟩ : ∃ w1, w1 = (((w.alloc (cellRow 1 zeroVal (.slice A n c))).alloc (.cells #[.int .i64 z0.k, .int .i64 z0.n, .string z0.s, .int .i64 z1.k, .int .i64 z1.n, .string z1.s] 46)).alloc (.cells #[.slice E p pc, .slice F q qc, .slice D s sc] 47)) := ⟨_, rfl⟩
  have HW0 := Lib.hid hw0; have HG := Lib.hid hg
  have hat : ∀ (w : World) (o : Obj) (g : Nat), w.heap.size = g → (w.alloc o).heap[g]? = some o := fun w o g h => by subst h; exact heap_alloc_new _ _
  have bb : Below w.heap.size w w0 := by rw [hw0]; exact below_new (below_new (below_new (Below.refl _ _) _) _) _
  have RX : Hid (w0.heap[g]? = some (cellRow 1 zeroVal (.slice A n c))) := by
    show _ = _
    rw [hw0, hg]
    rw [Below.heap_alloc _ _ _ (by simp only [World.size_alloc]; omega), Below.heap_alloc _ _ _ (by simp only [World.size_alloc]; omega)]
    exact hat _ _ _ rfl
  have RZ : Hid (w0.heap[g + 1]? = some (.cells #[.int .i64 z0.k, .int .i64 z0.n, .string z0.s, .int .i64 z1.k, .int .i64 z1.n, .string z1.s] 46)) := by
    show _ = _
    rw [hw0, hg]
    rw [Below.heap_alloc _ _ _ (by simp only [World.size_alloc]; omega)]
    exact hat _ _ _ (by simp only [World.size_alloc])
  have RK : Hid (w0.heap[g + 2]? = some (.cells #[.slice E p pc, .slice F q qc, .slice D s sc] 47)) := by
    show _ = _
    rw [hw0, hg]
    skip
    exact hat _ _ _ (by simp only [World.size_alloc])
  replace RD := Lib.hid (RD.out.below bb)
  replace R0 := Lib.hid (R0.out.below bb)
  replace R1 := Lib.hid (R1.out.below bb)
  replace R2 := Lib.hid (R2.out.below bb)
  replace HB := Lib.hid (below_then HB.out bb)
  clear bb hg hw0 hat
  go_enter Try.func8, Try.ntmps8
  go_upto_region 1 with fail
  rw [← HG.out]
  rw [show (((w.alloc (Obj.cells #[Value.int .i64 1, .int .i64 0, .int .i64 0, .string ⟨#[]⟩, .slice A n c] 26)).alloc (Obj.cells #[Value.int .i64 z0.k, .int .i64 z0.n, .string z0.s, .int .i64 z1.k, .int .i64 z1.n, .string z1.s] 46)).alloc (Obj.cells #[Value.slice E p pc, .slice F q qc, .slice D s sc] 47)) = w0 from HW0.out.symm]
  clear HW0
  obtain ⟨RX0, RX1, RX2, RX3, RX4⟩ := cell_row5 RX.out
  try dsimp only at RX0 RX1 RX2 RX3 RX4
  go_wp2_with fail
  refine (FW.out _).mono ?_
  rintro e v1 ⟨rfl, bb⟩
  replace RX := Lib.hid (row_below RX.out bb)
  replace RZ := Lib.hid (row_below RZ.out bb)
  replace RK := Lib.hid (row_below RK.out bb)
  replace RD := Lib.hid (RD.out.below bb)
  replace R0 := Lib.hid (R0.out.below bb)
  replace R1 := Lib.hid (R1.out.below bb)
  replace R2 := Lib.hid (R2.out.below bb)
  replace HB := Lib.hid (below_then HB.out bb)
  clear bb
  clear RX0 RX1 RX2 RX3 RX4
  have RK0 := cell_row RK.out 0
  have RK1 := cell_row RK.out 1
  have RK2 := cell_row RK.out 2
  simp only [List.getElem?_toArray, List.getElem?_cons_zero, List.getElem?_cons_succ] at RK0 RK1 RK2
  go_wp2_with fail
  refine (V1.out _ R0.out).mono ?_
  rintro e v2 ⟨rfl, bb⟩
  replace RX := Lib.hid (row_below RX.out bb)
  replace RZ := Lib.hid (row_below RZ.out bb)
  replace RK := Lib.hid (row_below RK.out bb)
  replace RD := Lib.hid (RD.out.below bb)
  replace R0 := Lib.hid (R0.out.below bb)
  replace R1 := Lib.hid (R1.out.below bb)
  replace R2 := Lib.hid (R2.out.below bb)
  replace HB := Lib.hid (below_then HB.out bb)
  clear bb
  clear RK0 RK1 RK2
  obtain ⟨RX0, RX1, RX2, RX3, RX4⟩ := cell_row5 RX.out
  try dsimp only at RX0 RX1 RX2 RX3 RX4
  go_wp2_with fail
  refine (CR.out _ RD.out).mono ?_
  rintro e v3 ⟨rfl, bb⟩
  replace RX := Lib.hid (row_below RX.out bb)
  replace RZ := Lib.hid (row_below RZ.out bb)
  replace RK := Lib.hid (row_below RK.out bb)
  replace RD := Lib.hid (RD.out.below bb)
  replace R0 := Lib.hid (R0.out.below bb)
  replace R1 := Lib.hid (R1.out.below bb)
  replace R2 := Lib.hid (R2.out.below bb)
  replace HB := Lib.hid (below_then HB.out bb)
  clear bb
  clear RX0 RX1 RX2 RX3 RX4
  have RK0 := cell_row RK.out 0
  have RK1 := cell_row RK.out 1
  have RK2 := cell_row RK.out 2
  simp only [List.getElem?_toArray, List.getElem?_cons_zero, List.getElem?_cons_succ] at RK0 RK1 RK2
  go_wp2_with fail
  refine (U1.out _ R1.out R0.out).mono ?_
  rintro e v4 ⟨rfl, bb⟩
  replace RX := Lib.hid (row_below RX.out bb)
  replace RZ := Lib.hid (row_below RZ.out bb)
  replace RK := Lib.hid (row_below RK.out bb)
  replace RD := Lib.hid (RD.out.below bb)
  replace R0 := Lib.hid (R0.out.below bb)
  replace R1 := Lib.hid (R1.out.below bb)
  replace R2 := Lib.hid (R2.out.below bb)
  replace HB := Lib.hid (below_then HB.out bb)
  clear bb
  clear RK0 RK1 RK2
  have RK0 := cell_row RK.out 0
  have RK1 := cell_row RK.out 1
  have RK2 := cell_row RK.out 2
  simp only [List.getElem?_toArray, List.getElem?_cons_zero, List.getElem?_cons_succ] at RK0 RK1 RK2
  go_wp2_with fail
  refine (U2.out _ R2.out R0.out).mono ?_
  rintro e v5 ⟨rfl, bb⟩
  replace RX := Lib.hid (row_below RX.out bb)
  replace RZ := Lib.hid (row_below RZ.out bb)
  replace RK := Lib.hid (row_below RK.out bb)
  replace RD := Lib.hid (RD.out.below bb)
  replace R0 := Lib.hid (R0.out.below bb)
  replace R1 := Lib.hid (R1.out.below bb)
  replace R2 := Lib.hid (R2.out.below bb)
  replace HB := Lib.hid (below_then HB.out bb)
  clear bb
  clear RK0 RK1 RK2
  have RK0 := cell_row RK.out 0
  have RK1 := cell_row RK.out 1
  have RK2 := cell_row RK.out 2
  simp only [List.getElem?_toArray, List.getElem?_cons_zero, List.getElem?_cons_succ] at RK0 RK1 RK2
  obtain ⟨RX0, RX1, RX2, RX3, RX4⟩ := cell_row5 RX.out
  try dsimp only at RX0 RX1 RX2 RX3 RX4
  clear V1 CR U1 U2 FW
  go_wp2_with fail
  go_loopw [68] (fun i wr => ∃ j : Nat, j ≤ n ∧ i = .int .i64 j ∧ Hid (∀ x ∈ l.take j, knowsV a0 x.d = true) ∧ Hid (Below v5.heap.size v5 wr)) (fun i _ => n - (intOf i).toNat)
  case atStart => exact ⟨0, Nat.zero_le _, rfl, by show ∀ x ∈ _, _; simp, Below.refl _ _⟩
  case round =>
    clear RX0 RX1 RX2 RX3 RX4 RK0 RK1 RK2
    obtain ⟨j, hj, rfl, hkn, hbel⟩ := hrel
    replace RX := Lib.hid (row_below RX.out hbel.out); replace RZ := Lib.hid (row_below RZ.out hbel.out); replace RK := Lib.hid (row_below RK.out hbel.out)
    replace R0 := Lib.hid (R0.out.below hbel.out)
    replace HB := Lib.hid (below_then HB.out hbel.out)
    by_cases hlt : j < n
    · obtain ⟨b, o, x, rfl, hb, hx, hld⟩ := RD.out.part hlt
      obtain ⟨e0, e1, e2, e3, e4, e5, e6, e7, e8, e9, e10⟩ := hld wr hbel.out
      have HX := Lib.hid hx
      have HBV := Lib.hid hbel.out
      clear hx hld hbel
      obtain ⟨v41, hw⟩ : ∃ w', w' = wr.alloc (partCells x) := ⟨_, rfl⟩
      have RQ : Hid (v41.heap[wr.heap.size]? = some (partCells x)) := by rw [hw]; exact heap_alloc_new _ _
      have bb : Below wr.heap.size wr v41 := by rw [hw]; exact below_new (Below.refl _ _) _
      replace hw := Lib.hid hw
      replace RX := Lib.hid (row_below RX.out bb)
      replace RZ := Lib.hid (row_below RZ.out bb)
      replace RK := Lib.hid (row_below RK.out bb)
      replace R0 := Lib.hid (R0.out.below bb)
      replace HB := Lib.hid (below_then HB.out bb)
      replace HBV := Lib.hid (below_then HBV.out bb)
      clear bb
      go_upto_region 6 with fail
      rw [show wr.alloc (Obj.cells #[Value.int .i64 x.v.k, .int .i64 x.v.n, .string x.v.s, .int .i64 x.d.d, .int .i64 x.d.s, .int .i64 x.i, .int .i64 x.t, .int .i64 x.a.d, .int .i64 x.a.s, .int .i64 x.j, .bool x.g] 32) = v41 from hw.out.symm]
      clear hw
      generalize wr.heap.size = gRQ at RQ ⊢
      clear e0 e1 e2 e3 e4 e5 e6 e7 e8 e9 e10
      obtain ⟨r, hr⟩ : ∃ r, Hid (hasV a0 x.d.d x.d.s = r) := ⟨_, rfl⟩
      have CH : Hid (∀ W : World, Rd W E p pc (vals .i64 a0) → Calls Try.prog 25 #[.slice E p pc, .agg #[.int .i64 x.d.d, .int .i64 x.d.s]] W fun e w' => e = .returned (.bool r) ∧ Below W.heap.size W w') := by
        intro W hW; rw [← hr.out]; exact refHas_any E p pc a0 x.d.d x.d.s W hW
      have RK0 := cell_row RK.out 0
      have RK1 := cell_row RK.out 1
      have RK2 := cell_row RK.out 2
      simp only [List.getElem?_toArray, List.getElem?_cons_zero, List.getElem?_cons_succ] at RK0 RK1 RK2
      obtain ⟨RQ0, RQ1, RQ2, RQ3, RQ4, RQ5, RQ6, RQ7, RQ8, RQ9, RQ10⟩ := part_row RQ.out
      go_wp2_with fail
      refine (CH.out _ R0.out).mono ?_
      rintro e v42 ⟨rfl, bb⟩
      replace RX := Lib.hid (row_below RX.out bb)
      replace RZ := Lib.hid (row_below RZ.out bb)
      replace RK := Lib.hid (row_below RK.out bb)
      replace RQ := Lib.hid (row_below RQ.out bb)
      replace R0 := Lib.hid (R0.out.below bb)
      replace HB := Lib.hid (below_then HB.out bb)
      replace HBV := Lib.hid (below_then HBV.out bb)
      clear bb
      cases r with
      | true =>
        have hk2 : Hid (∀ y ∈ l.take (j + 1), knowsV a0 y.d = true) := by
          intro y hy
          rw [List.take_add_one, HX.out] at hy
          rcases List.mem_append.1 hy with h | h
          · exact hkn.out y h
          · simp at h; subst h; exact hr.out
        go_wp2_with fail
        exact ⟨⟨j + 1, by omega, by go_num, hk2, HBV⟩, by simp [intOf]; omega⟩
      | false =>
        go_wp2_with fail
        refine (alive7_any _).mono ?_
        rintro e v43 ⟨rfl, bb⟩
        replace RX := Lib.hid (row_below RX.out bb)
        replace RZ := Lib.hid (row_below RZ.out bb)
        replace RK := Lib.hid (row_below RK.out bb)
        replace RQ := Lib.hid (row_below RQ.out bb)
        replace R0 := Lib.hid (R0.out.below bb)
        replace HB := Lib.hid (below_then HB.out bb)
        replace HBV := Lib.hid (below_then HBV.out bb)
        clear bb
        go_wp2_with fail
        go_ret
        exact ⟨rfl, HB.out⟩
    · have hall : ∀ x ∈ l, knowsV a0 x.d = true := by
        have := hkn.out
        rwa [List.take_of_length_le (by rw [HLN.out]; omega)] at this
      replace RD := Lib.hid (RD.out.below hbel.out)
      replace R1 := Lib.hid (R1.out.below hbel.out)
      replace R2 := Lib.hid (R2.out.below hbel.out)
      clear hkn hbel
      have hd0 : knowsV a0 ⟨1, D1⟩ = false := meet_new1 a0 1 D1 hD1.out
      have he0 : knowsV a0 ⟨2, E1⟩ = false := meet_new1 a0 2 E1 hE1.out
      obtain ⟨La, hLa⟩ : ∃ L, Hid (writeL l z0 ⟨1, D1⟩ a1 = L) := ⟨_, rfl⟩
      obtain ⟨Lb, hLb⟩ : ∃ L, Hid (writeL l z1 ⟨2, E1⟩ a2 = L) := ⟨_, rfl⟩
      obtain ⟨Lc, hLc⟩ : ∃ L, Hid (writeL La z1 ⟨2, E1⟩ a2 = L) := ⟨_, rfl⟩
      obtain ⟨XL, hXL⟩ : ∃ L, Hid (setV a0 1 D1 = L) := ⟨_, rfl⟩
      obtain ⟨YL, hYL⟩ : ∃ L, Hid (setV a0 2 E1 = L) := ⟨_, rfl⟩
      obtain ⟨Na, hNa⟩ : ∃ N, Hid (La.length = N) := ⟨_, rfl⟩
      obtain ⟨Nb, hNb⟩ : ∃ N, Hid (Lb.length = N) := ⟨_, rfl⟩
      obtain ⟨Nc, hNc⟩ : ∃ N, Hid (Lc.length = N) := ⟨_, rfl⟩
      have J := meet_join (k1 := a1) (z0 := z0) (z1 := z1) HRI.out hall hr4.out (d := ⟨1, D1⟩) (e := ⟨2, E1⟩) (by simp) hd0 he0 (x := XL) (y := YL) (fun q h => by rw [← hXL.out]; exact meet_set a0 1 D1 hD1.out h) (fun q h => by rw [← hYL.out]; exact meet_set a0 2 E1 hE1.out h) (by rw [← hXL.out]; exact meet_set_other a0 1 D1 2 E1 (by decide) hE1.out) (by rw [← hYL.out]; exact meet_set_other a0 2 E1 1 D1 (by decide) hD1.out)
      rw [hLa.out, hLb.out, hLc.out] at J
      have J1 := Lib.hid J.1; have J2 := Lib.hid J.2
      have J3 : Hid (joinL La La XL XL = La) := by rw [← hLa.out]; exact meet_self (write_rise HRI.out _ _ _) XL
      have J4 : Hid (joinL l La a0 XL = La) := by rw [← hLa.out]; exact meet_behind HRI.out hall hd0 (fun q h => by rw [← hXL.out]; exact meet_set a0 1 D1 hD1.out h)
      have bNa : Na ≤ 100 := by rw [← hNa.out, ← hLa.out, write_len]; have := List.length_filter_le (keptW ⟨1, D1⟩ a1) l; have := HLN.out; omega
      have bNb : Nb ≤ 100 := by rw [← hNb.out, ← hLb.out, write_len]; have := List.length_filter_le (keptW ⟨2, E1⟩ a2) l; have := HLN.out; omega
      have bNc : Nc ≤ 200 := by rw [← hNc.out, ← hLc.out, write_len]; have := List.length_filter_le (keptW ⟨2, E1⟩ a2) La; have := hNa.out; omega
      clear hall hd0 he0 J HRI hr1 hr2 hr3 hr4
      have OF : Hid (∀ (d : Int) (W : World), Rd W E p pc (vals .i64 a0) → Calls Try.prog 29 #[.slice E p pc, .int .i64 d] W fun e w' => e = .returned (.int .i64 (ofV a0 d)) ∧ w' = W) := fun d W hW => refOf_any E p pc a0 d W hW
      go_upto_region 9 with fail
      go_cut [9, 10] from 80 to 89 (fun p1 p2 wz => ∃ gd ge, p1 = .pointer (some ⟨gd, 0, none⟩) ∧ p2 = .pointer (some ⟨ge, 0, none⟩) ∧ Hid (wz.heap[gd]? = some (dotRow ⟨1, D1⟩)) ∧ Hid (wz.heap[ge]? = some (dotRow ⟨2, E1⟩)) ∧ Hid (Below wr.heap.size wr wz))
      case first =>
        have RK0 := cell_row RK.out 0
        simp only [List.getElem?_toArray, List.getElem?_cons_zero] at RK0
        have hgl : g + 2 < wr.heap.size := block_lt_of_cell RK0
        have hA : ∀ (o : Obj), (wr.alloc o).cell? ⟨g + 2, 0, none⟩ = some (.slice E p pc) := fun o => (World.cell?_alloc_lt wr o ⟨g + 2, 0, none⟩ hgl).trans RK0
        have hA2 : ∀ (o o' : Obj), ((wr.alloc o).alloc o').cell? ⟨g + 2, 0, none⟩ = some (.slice E p pc) := fun o o' => (World.cell?_alloc_lt (wr.alloc o) o' ⟨g + 2, 0, none⟩ (by rw [World.size_alloc]; exact Nat.lt_succ_of_lt hgl)).trans (hA o)
        have hS0 : Below wr.heap.size wr wr ∧ wr.cell? ⟨g + 2, 0, none⟩ = some (.slice E p pc) := ⟨Below.refl _ _, RK0⟩
        have K : Hid (∀ W W' : World, (Below wr.heap.size wr W ∧ W.cell? ⟨g + 2, 0, none⟩ = some (.slice E p pc)) → Below W.heap.size W W' → (Below wr.heap.size wr W' ∧ W'.cell? ⟨g + 2, 0, none⟩ = some (.slice E p pc))) := by
          rintro W W' ⟨kk, k0⟩ hb
          exact ⟨below_then kk hb, (hb.cell (World.block_lt_of_cell? _ _ k0)).trans k0⟩
        have K2 : Hid (∀ (W : World) (q j : Nat) (x : Value), (Below wr.heap.size wr W ∧ W.cell? ⟨g + 2, 0, none⟩ = some (.slice E p pc)) → wr.heap.size ≤ q → (Below wr.heap.size wr (W.setCell ⟨q, j, none⟩ x) ∧ (W.setCell ⟨q, j, none⟩ x).cell? ⟨g + 2, 0, none⟩ = some (.slice E p pc))) := by
          rintro W q j x ⟨kk, k0⟩ hq
          exact ⟨kk.setCell hq x, by rw [World.cell?_setCell_other _ _ _ _ (by intro e; simp only [Addr.mk.injEq] at e; omega)]; exact k0⟩
        clear hA hA2
        have TA : ∀ o o' : Obj, ((wr.alloc o).alloc o').drew.heap[wr.heap.size]? = some o := fun o o' => by
          show ((wr.alloc o).alloc o').heap[wr.heap.size]? = some o
          rw [Below.heap_alloc _ _ _ (by simp)]; exact heap_alloc_new _ _
        have TC : ∀ o o' : Obj, ((wr.alloc o).alloc o').drew.heap[wr.heap.size + 1]? = some o' := fun o o' => by
          show ((wr.alloc o).alloc o').heap[wr.heap.size + 1]? = some o'
          have := heap_alloc_new (wr.alloc o) o'
          rw [World.size_alloc] at this; exact this
        have TB : ∀ o o' : Obj, Below wr.heap.size wr ((wr.alloc o).alloc o').drew := fun o o' => (below_new (below_new (Below.refl _ _) _) _).drew
        have TA := Lib.hid TA; have TC := Lib.hid TC; have TB := Lib.hid TB
        go_region_held3 (fun W => Below wr.heap.size wr W ∧ W.cell? ⟨g + 2, 0, none⟩ = some (.slice E p pc))
          (first
            | exact K.out _ _ hS0 ((Below.refl _ _).drew)
            | exact K.out _ _ (by assumption) ((Below.refl _ _).alloc (Nat.le_refl _) _)
            | exact K.out _ _ hS0 (((Below.refl _ _).alloc (Nat.le_refl _) _).drew)
            | exact K.out _ _ hS0 ((((Below.refl _ _).alloc (Nat.le_refl _) _).alloc (by simp only [World.size_alloc]; omega) _).drew)
            | exact K.out _ _ hS0 (((Below.refl _ _).alloc (Nat.le_refl _) _).alloc (by simp only [World.size_alloc]; omega) _)
            | exact K.out _ _ (by assumption) ((Below.refl _ _).drew)
            | exact K.out _ _ (by assumption) (((Below.refl _ _).alloc (Nat.le_refl _) _).drew)
            | exact K2.out _ _ _ _ (K2.out _ _ _ _ (by assumption) (by first | omega | (simp only [World.size_alloc]; omega))) (by first | omega | (simp only [World.size_alloc]; omega))
            | assumption)
          (first
            | (go_at_call 29; refine (OF.out _ _ (R0.out.below (by go_split_ands; assumption))).mono ?_; rintro e wx ⟨rfl, rfl⟩))
        all_goals
          go_wp2_with fail
          go_meet
          first
            | exact ⟨_, _, rfl, rfl, TA.out _ _, TC.out _ _, TB.out _ _⟩
            | exact ⟨_, _, rfl, rfl, TC.out _ _, TA.out _ _, TB.out _ _⟩
      case rest =>
      obtain ⟨gd, ge, rfl, rfl, QD, QE, hbz⟩ := hcut
      clear OF
      replace RX := Lib.hid (row_below RX.out hbz.out)
      replace RZ := Lib.hid (row_below RZ.out hbz.out)
      replace RK := Lib.hid (row_below RK.out hbz.out)
      replace RD := Lib.hid (RD.out.below hbz.out)
      replace R0 := Lib.hid (R0.out.below hbz.out)
      replace R1 := Lib.hid (R1.out.below hbz.out)
      replace R2 := Lib.hid (R2.out.below hbz.out)
      replace HB := Lib.hid (below_then HB.out hbz.out)
      clear hbz
      generalize wc = v20 at RX RZ RK RD R0 R1 R2 HB QD QE ⊢
      obtain ⟨RX0, RX1, RX2, RX3, RX4⟩ := cell_row5 RX.out
      try dsimp only at RX0 RX1 RX2 RX3 RX4
      have RZ0 := cell_row RZ.out 0
      have RZ1 := cell_row RZ.out 1
      have RZ2 := cell_row RZ.out 2
      have RZ3 := cell_row RZ.out 3
      have RZ4 := cell_row RZ.out 4
      have RZ5 := cell_row RZ.out 5
      simp only [List.getElem?_toArray, List.getElem?_cons_zero, List.getElem?_cons_succ] at RZ0 RZ1 RZ2 RZ3 RZ4 RZ5
      obtain ⟨QD0, QD1⟩ := dot_row QD.out
      try dsimp only at QD0 QD1
      have RK0 := cell_row RK.out 0
      have RK1 := cell_row RK.out 1
      have RK2 := cell_row RK.out 2
      simp only [List.getElem?_toArray, List.getElem?_cons_zero, List.getElem?_cons_succ] at RK0 RK1 RK2
      go_wp2_with fail
      refine (write_is 1 zeroVal A n c l z0 ⟨1, D1⟩ F q qc a1 _ RD.out (by have := hn6; omega) R1.out La Na hLa.out hNa.out).mono ?_
      rintro e v21 ⟨A1, c1, rfl, rA, bb⟩
      replace RX := Lib.hid (row_below RX.out bb)
      replace RZ := Lib.hid (row_below RZ.out bb)
      replace RK := Lib.hid (row_below RK.out bb)
      replace QD := Lib.hid (row_below QD.out bb)
      replace QE := Lib.hid (row_below QE.out bb)
      replace RD := Lib.hid (RD.out.below bb)
      replace R0 := Lib.hid (R0.out.below bb)
      replace R1 := Lib.hid (R1.out.below bb)
      replace R2 := Lib.hid (R2.out.below bb)
      replace HB := Lib.hid (below_then HB.out bb)
      clear bb
      have RA := Lib.hid rA
      clear rA
      clear RX0 RX1 RX2 RX3 RX4 RZ0 RZ1 RZ2 RZ3 RZ4 RZ5 QD0 QD1 RK0 RK1 RK2
      obtain ⟨v22, hw⟩ : ∃ w', w' = v21.alloc (cellRow 1 zeroVal (.slice A1 Na c1)) := ⟨_, rfl⟩
      have PA : Hid (v22.heap[v21.heap.size]? = some (cellRow 1 zeroVal (.slice A1 Na c1))) := by rw [hw]; exact heap_alloc_new _ _
      have bb : Below v21.heap.size v21 v22 := by rw [hw]; exact below_new (Below.refl _ _) _
      replace hw := Lib.hid hw
      replace RX := Lib.hid (row_below RX.out bb)
      replace RZ := Lib.hid (row_below RZ.out bb)
      replace RK := Lib.hid (row_below RK.out bb)
      replace QD := Lib.hid (row_below QD.out bb)
      replace QE := Lib.hid (row_below QE.out bb)
      replace RD := Lib.hid (RD.out.below bb)
      replace R0 := Lib.hid (R0.out.below bb)
      replace R1 := Lib.hid (R1.out.below bb)
      replace R2 := Lib.hid (R2.out.below bb)
      replace RA := Lib.hid (RA.out.below bb)
      replace HB := Lib.hid (below_then HB.out bb)
      clear bb
      go_upto_region 11 with fail
      rw [show v21.alloc (Obj.cells #[Value.int .i64 1, .int .i64 0, .int .i64 0, .string ⟨#[]⟩, .slice A1 Na c1] 26) = v22 from hw.out.symm]
      clear hw
      generalize v21.heap.size = gPA at PA ⊢
      obtain ⟨RX0, RX1, RX2, RX3, RX4⟩ := cell_row5 RX.out
      try dsimp only at RX0 RX1 RX2 RX3 RX4
      have RZ0 := cell_row RZ.out 0
      have RZ1 := cell_row RZ.out 1
      have RZ2 := cell_row RZ.out 2
      have RZ3 := cell_row RZ.out 3
      have RZ4 := cell_row RZ.out 4
      have RZ5 := cell_row RZ.out 5
      simp only [List.getElem?_toArray, List.getElem?_cons_zero, List.getElem?_cons_succ] at RZ0 RZ1 RZ2 RZ3 RZ4 RZ5
      obtain ⟨QE0, QE1⟩ := dot_row QE.out
      try dsimp only at QE0 QE1
      have RK0 := cell_row RK.out 0
      have RK1 := cell_row RK.out 1
      have RK2 := cell_row RK.out 2
      simp only [List.getElem?_toArray, List.getElem?_cons_zero, List.getElem?_cons_succ] at RK0 RK1 RK2
      go_wp2_with fail
      refine (write_is 1 zeroVal A n c l z1 ⟨2, E1⟩ D s sc a2 _ RD.out (by have := hn6; omega) R2.out Lb Nb hLb.out hNb.out).mono ?_
      rintro e v23 ⟨A2, c2, rfl, rB, bb⟩
      replace RX := Lib.hid (row_below RX.out bb)
      replace RZ := Lib.hid (row_below RZ.out bb)
      replace RK := Lib.hid (row_below RK.out bb)
      replace QD := Lib.hid (row_below QD.out bb)
      replace QE := Lib.hid (row_below QE.out bb)
      replace PA := Lib.hid (row_below PA.out bb)
      replace RD := Lib.hid (RD.out.below bb)
      replace R0 := Lib.hid (R0.out.below bb)
      replace R1 := Lib.hid (R1.out.below bb)
      replace R2 := Lib.hid (R2.out.below bb)
      replace RA := Lib.hid (RA.out.below bb)
      replace HB := Lib.hid (below_then HB.out bb)
      clear bb
      have RB := Lib.hid rB
      clear rB
      clear RX0 RX1 RX2 RX3 RX4 RZ0 RZ1 RZ2 RZ3 RZ4 RZ5 QE0 QE1 RK0 RK1 RK2
      obtain ⟨v24, hw⟩ : ∃ w', w' = v23.alloc (cellRow 1 zeroVal (.slice A2 Nb c2)) := ⟨_, rfl⟩
      have PB : Hid (v24.heap[v23.heap.size]? = some (cellRow 1 zeroVal (.slice A2 Nb c2))) := by rw [hw]; exact heap_alloc_new _ _
      have bb : Below v23.heap.size v23 v24 := by rw [hw]; exact below_new (Below.refl _ _) _
      replace hw := Lib.hid hw
      replace RX := Lib.hid (row_below RX.out bb)
      replace RZ := Lib.hid (row_below RZ.out bb)
      replace RK := Lib.hid (row_below RK.out bb)
      replace QD := Lib.hid (row_below QD.out bb)
      replace QE := Lib.hid (row_below QE.out bb)
      replace PA := Lib.hid (row_below PA.out bb)
      replace RD := Lib.hid (RD.out.below bb)
      replace R0 := Lib.hid (R0.out.below bb)
      replace R1 := Lib.hid (R1.out.below bb)
      replace R2 := Lib.hid (R2.out.below bb)
      replace RA := Lib.hid (RA.out.below bb)
      replace RB := Lib.hid (RB.out.below bb)
      replace HB := Lib.hid (below_then HB.out bb)
      clear bb
      go_upto_region 12 with fail
      rw [show v23.alloc (Obj.cells #[Value.int .i64 1, .int .i64 0, .int .i64 0, .string ⟨#[]⟩, .slice A2 Nb c2] 26) = v24 from hw.out.symm]
      clear hw
      generalize v23.heap.size = gPB at PB ⊢
      obtain ⟨PA0, PA1, PA2, PA3, PA4⟩ := cell_row5 PA.out
      try dsimp only at PA0 PA1 PA2 PA3 PA4
      have RZ0 := cell_row RZ.out 0
      have RZ1 := cell_row RZ.out 1
      have RZ2 := cell_row RZ.out 2
      have RZ3 := cell_row RZ.out 3
      have RZ4 := cell_row RZ.out 4
      have RZ5 := cell_row RZ.out 5
      simp only [List.getElem?_toArray, List.getElem?_cons_zero, List.getElem?_cons_succ] at RZ0 RZ1 RZ2 RZ3 RZ4 RZ5
      obtain ⟨QE0, QE1⟩ := dot_row QE.out
      try dsimp only at QE0 QE1
      have RK0 := cell_row RK.out 0
      have RK1 := cell_row RK.out 1
      have RK2 := cell_row RK.out 2
      simp only [List.getElem?_toArray, List.getElem?_cons_zero, List.getElem?_cons_succ] at RK0 RK1 RK2
      go_wp2_with fail
      refine (write_is 1 zeroVal A1 Na c1 La z1 ⟨2, E1⟩ D s sc a2 _ RA.out (by have := bNa; omega) R2.out Lc Nc hLc.out hNc.out).mono ?_
      rintro e v25 ⟨A3, c3, rfl, rC, bb⟩
      replace RX := Lib.hid (row_below RX.out bb)
      replace RZ := Lib.hid (row_below RZ.out bb)
      replace RK := Lib.hid (row_below RK.out bb)
      replace QD := Lib.hid (row_below QD.out bb)
      replace QE := Lib.hid (row_below QE.out bb)
      replace PA := Lib.hid (row_below PA.out bb)
      replace PB := Lib.hid (row_below PB.out bb)
      replace RD := Lib.hid (RD.out.below bb)
      replace R0 := Lib.hid (R0.out.below bb)
      replace R1 := Lib.hid (R1.out.below bb)
      replace R2 := Lib.hid (R2.out.below bb)
      replace RA := Lib.hid (RA.out.below bb)
      replace RB := Lib.hid (RB.out.below bb)
      replace HB := Lib.hid (below_then HB.out bb)
      clear bb
      have RC := Lib.hid rC
      clear rC
      clear PA0 PA1 PA2 PA3 PA4 RZ0 RZ1 RZ2 RZ3 RZ4 RZ5 QE0 QE1 RK0 RK1 RK2
      obtain ⟨v26, hw⟩ : ∃ w', w' = v25.alloc (cellRow 1 zeroVal (.slice A3 Nc c3)) := ⟨_, rfl⟩
      have PC : Hid (v26.heap[v25.heap.size]? = some (cellRow 1 zeroVal (.slice A3 Nc c3))) := by rw [hw]; exact heap_alloc_new _ _
      have bb : Below v25.heap.size v25 v26 := by rw [hw]; exact below_new (Below.refl _ _) _
      replace hw := Lib.hid hw
      replace RX := Lib.hid (row_below RX.out bb)
      replace RZ := Lib.hid (row_below RZ.out bb)
      replace RK := Lib.hid (row_below RK.out bb)
      replace QD := Lib.hid (row_below QD.out bb)
      replace QE := Lib.hid (row_below QE.out bb)
      replace PA := Lib.hid (row_below PA.out bb)
      replace PB := Lib.hid (row_below PB.out bb)
      replace RD := Lib.hid (RD.out.below bb)
      replace R0 := Lib.hid (R0.out.below bb)
      replace R1 := Lib.hid (R1.out.below bb)
      replace R2 := Lib.hid (R2.out.below bb)
      replace RA := Lib.hid (RA.out.below bb)
      replace RB := Lib.hid (RB.out.below bb)
      replace RC := Lib.hid (RC.out.below bb)
      replace HB := Lib.hid (below_then HB.out bb)
      clear bb
      go_upto_region 13 with fail
      rw [show v25.alloc (Obj.cells #[Value.int .i64 1, .int .i64 0, .int .i64 0, .string ⟨#[]⟩, .slice A3 Nc c3] 26) = v26 from hw.out.symm]
      clear hw
      generalize v25.heap.size = gPC at PC ⊢
      have hp5 : p ≤ 4294967296 := by have := HP60.out; omega
      have ST : Hid (∀ (d y : Int) (W : World), Below v26.heap.size v26 W → Calls Try.prog 30 #[.slice E p pc, .int .i64 d, .int .i64 y] W fun e w' => ∃ A' n' c', e = .returned (.slice A' n' c') ∧ Rd w' A' n' c' (vals .i64 (setV a0 d y)) ∧ Below W.heap.size W w') := by
        intro d y W hW
        exact refSet_any E p pc a0 d y W (R0.out.below hW) hp5
      have RK0 := cell_row RK.out 0
      have RK1 := cell_row RK.out 1
      have RK2 := cell_row RK.out 2
      simp only [List.getElem?_toArray, List.getElem?_cons_zero, List.getElem?_cons_succ] at RK0 RK1 RK2
      obtain ⟨QD0, QD1⟩ := dot_row QD.out
      try dsimp only at QD0 QD1
      obtain ⟨QE0, QE1⟩ := dot_row QE.out
      try dsimp only at QE0 QE1
      clear RK1 RK2 QD0 QE0
      go_upto_region 13 with fail
      go_cut [14, 15] from 111 to 120 (fun p1 p2 wz => ∃ A4 Nx c4 A5 Ny c5, p1 = .slice A4 Nx c4 ∧ p2 = .slice A5 Ny c5 ∧ Hid (Rd wz A4 Nx c4 (vals .i64 (setV a0 1 D1))) ∧ Hid (Rd wz A5 Ny c5 (vals .i64 (setV a0 2 E1))) ∧ Hid (Below v26.heap.size v26 wz))
      case first =>
        have hS0 : Below v26.heap.size v26 v26 ∧ v26.cell? ⟨g + 2, 0, none⟩ = some (.slice E p pc) ∧ v26.cell? ⟨gd, 1, none⟩ = some (.int .i64 D1) ∧ v26.cell? ⟨ge, 1, none⟩ = some (.int .i64 E1) := ⟨Below.refl _ _, RK0, QD1, QE1⟩
        have K : Hid (∀ W W' : World, (Below v26.heap.size v26 W ∧ W.cell? ⟨g + 2, 0, none⟩ = some (.slice E p pc) ∧ W.cell? ⟨gd, 1, none⟩ = some (.int .i64 D1) ∧ W.cell? ⟨ge, 1, none⟩ = some (.int .i64 E1)) → Below W.heap.size W W' → (Below v26.heap.size v26 W' ∧ W'.cell? ⟨g + 2, 0, none⟩ = some (.slice E p pc) ∧ W'.cell? ⟨gd, 1, none⟩ = some (.int .i64 D1) ∧ W'.cell? ⟨ge, 1, none⟩ = some (.int .i64 E1))) := by
          rintro W W' ⟨kk, k0, k1, k2⟩ hb
          have hc : ∀ (p : Addr) (y : Value), W.cell? p = some y → W'.cell? p = some y := fun p y h2 => (hb.cell (World.block_lt_of_cell? _ _ h2)).trans h2
          exact ⟨below_then kk hb, hc _ _ k0, hc _ _ k1, hc _ _ k2⟩
        go_region_held3 (fun W => Below v26.heap.size v26 W ∧ W.cell? ⟨g + 2, 0, none⟩ = some (.slice E p pc) ∧ W.cell? ⟨gd, 1, none⟩ = some (.int .i64 D1) ∧ W.cell? ⟨ge, 1, none⟩ = some (.int .i64 E1))
          (first
            | exact K.out _ _ hS0 ((Below.refl _ _).drew)
            | exact K.out _ _ (by assumption) bb
            | assumption)
          (first
            | (go_at_call 30; refine (ST.out _ _ _ (by first | exact Below.refl _ _ | exact (Below.refl _ _).drew | (go_split_ands; assumption))).mono ?_; rintro e wx ⟨A4, n4, c4, rfl, rX, bb⟩; (try (have rP := rP.below bb)); have rP := rX))
        all_goals
          have HBz : Below v26.heap.size v26 wx := by go_split_ands; assumption
          go_wp2_with fail
          go_meet
          refine ⟨_, _, _, _, _, _, rfl, rfl, ?_, ?_, HBz⟩
          · show Rd _ _ _ _ _; assumption
          · show Rd _ _ _ _ _; assumption
      case rest =>
      obtain ⟨A4, Nx, c4, A5, Ny, c5, rfl, rfl, RXX, RYY, hbz⟩ := hcut
      clear ST RK0 QD1 QE1
      rw [hXL.out] at RXX
      rw [hYL.out] at RYY
      clear RZ QD QE
      replace RX := Lib.hid (row_below RX.out hbz.out)
      replace RK := Lib.hid (row_below RK.out hbz.out)
      replace PA := Lib.hid (row_below PA.out hbz.out)
      replace PB := Lib.hid (row_below PB.out hbz.out)
      replace PC := Lib.hid (row_below PC.out hbz.out)
      replace RD := Lib.hid (RD.out.below hbz.out)
      replace R0 := Lib.hid (R0.out.below hbz.out)
      replace RA := Lib.hid (RA.out.below hbz.out)
      replace RB := Lib.hid (RB.out.below hbz.out)
      replace RC := Lib.hid (RC.out.below hbz.out)
      replace HB := Lib.hid (below_then HB.out hbz.out)
      clear hbz
      generalize wc = v40 at RX RK PA PB PC RD R0 RA RB RC RXX RYY HB ⊢
      have JN : ∀ (A : Option Addr) (n c : Nat) (la : List P11) (B : Option Addr) (m d : Nat) (lb : List P11) (C : Option Addr) (p pc : Nat) (na : List Int) (D : Option Addr) (q qc : Nat) (nb : List Int) (W : World) (M : List P11) (N : Nat), RdP W A n c la → RdP W B m d lb → n + m ≤ 4294967295 → Rd W C p pc (vals .i64 na) → Rd W D q qc (vals .i64 nb) → joinL la lb na nb = M → M.length = N →
          Calls Try.prog 22 #[cellV 1 zeroVal (.slice A n c), cellV 1 zeroVal (.slice B m d), .slice C p pc, .slice D q qc] W fun e w' => ∃ A' c', e = .returned (cellV 1 zeroVal (.slice A' N c')) ∧ RdP w' A' N c' M ∧ Below W.heap.size W w' :=
        fun A n c la B m d lb C p pc na D q qc nb W M N ha hb hn hka hkb hM hN => join_is 1 zeroVal A n c la 1 zeroVal B m d lb C p pc na D q qc nb W ha hb hn hka hkb M N hM hN
      have bA : Na + Nb ≤ 4294967295 := by omega
      have bB : Nb + Na ≤ 4294967295 := by omega
      have bC : Na + Na ≤ 4294967295 := by omega
      have bD : n + Na ≤ 4294967295 := by omega
      have JN := Lib.hid JN
      have mj1 : True := trivial
      have mj2 : True := trivial
      have mj3 : True := trivial
      have mj4 : True := trivial
      have ms1 : True := trivial
      have ms2 : True := trivial
      have ms3 : True := trivial
      have ms4 : True := trivial
      obtain ⟨PA0, PA1, PA2, PA3, PA4⟩ := cell_row5 PA.out
      try dsimp only at PA0 PA1 PA2 PA3 PA4
      obtain ⟨PB0, PB1, PB2, PB3, PB4⟩ := cell_row5 PB.out
      try dsimp only at PB0 PB1 PB2 PB3 PB4
      obtain ⟨PC0, PC1, PC2, PC3, PC4⟩ := cell_row5 PC.out
      try dsimp only at PC0 PC1 PC2 PC3 PC4
      obtain ⟨RX0, RX1, RX2, RX3, RX4⟩ := cell_row5 RX.out
      try dsimp only at RX0 RX1 RX2 RX3 RX4
      have RK0 := cell_row RK.out 0
      have RK1 := cell_row RK.out 1
      have RK2 := cell_row RK.out 2
      simp only [List.getElem?_toArray, List.getElem?_cons_zero, List.getElem?_cons_succ] at RK0 RK1 RK2
      have hS0 : Below v40.heap.size v40 v40 ∧ v40.cell? ⟨gPA, 0, none⟩ = some (.int .i64 1) ∧ v40.cell? ⟨gPA, 1, none⟩ = some (.int .i64 0) ∧ v40.cell? ⟨gPA, 2, none⟩ = some (.int .i64 0) ∧ v40.cell? ⟨gPA, 3, none⟩ = some (.string ⟨#[]⟩) ∧ v40.cell? ⟨gPA, 4, none⟩ = some (.slice A1 Na c1) ∧ v40.cell? ⟨gPB, 0, none⟩ = some (.int .i64 1) ∧ v40.cell? ⟨gPB, 1, none⟩ = some (.int .i64 0) ∧ v40.cell? ⟨gPB, 2, none⟩ = some (.int .i64 0) ∧ v40.cell? ⟨gPB, 3, none⟩ = some (.string ⟨#[]⟩) ∧ v40.cell? ⟨gPB, 4, none⟩ = some (.slice A2 Nb c2) ∧ v40.cell? ⟨gPC, 0, none⟩ = some (.int .i64 1) ∧ v40.cell? ⟨gPC, 1, none⟩ = some (.int .i64 0) ∧ v40.cell? ⟨gPC, 2, none⟩ = some (.int .i64 0) ∧ v40.cell? ⟨gPC, 3, none⟩ = some (.string ⟨#[]⟩) ∧ v40.cell? ⟨gPC, 4, none⟩ = some (.slice A3 Nc c3) ∧ v40.cell? ⟨g, 0, none⟩ = some (.int .i64 1) ∧ v40.cell? ⟨g, 1, none⟩ = some (.int .i64 0) ∧ v40.cell? ⟨g, 2, none⟩ = some (.int .i64 0) ∧ v40.cell? ⟨g, 3, none⟩ = some (.string ⟨#[]⟩) ∧ v40.cell? ⟨g, 4, none⟩ = some (.slice A n c) ∧ v40.cell? ⟨g + 2, 0, none⟩ = some (.slice E p pc) ∧ v40.cell? ⟨g + 2, 1, none⟩ = some (.slice F q qc) ∧ v40.cell? ⟨g + 2, 2, none⟩ = some (.slice D s sc) := ⟨Below.refl _ _, PA0, PA1, PA2, PA3, PA4, PB0, PB1, PB2, PB3, PB4, PC0, PC1, PC2, PC3, PC4, RX0, RX1, RX2, RX3, RX4, RK0, RK1, RK2⟩
      have K : Hid (∀ W W' : World, (Below v40.heap.size v40 W ∧ W.cell? ⟨gPA, 0, none⟩ = some (.int .i64 1) ∧ W.cell? ⟨gPA, 1, none⟩ = some (.int .i64 0) ∧ W.cell? ⟨gPA, 2, none⟩ = some (.int .i64 0) ∧ W.cell? ⟨gPA, 3, none⟩ = some (.string ⟨#[]⟩) ∧ W.cell? ⟨gPA, 4, none⟩ = some (.slice A1 Na c1) ∧ W.cell? ⟨gPB, 0, none⟩ = some (.int .i64 1) ∧ W.cell? ⟨gPB, 1, none⟩ = some (.int .i64 0) ∧ W.cell? ⟨gPB, 2, none⟩ = some (.int .i64 0) ∧ W.cell? ⟨gPB, 3, none⟩ = some (.string ⟨#[]⟩) ∧ W.cell? ⟨gPB, 4, none⟩ = some (.slice A2 Nb c2) ∧ W.cell? ⟨gPC, 0, none⟩ = some (.int .i64 1) ∧ W.cell? ⟨gPC, 1, none⟩ = some (.int .i64 0) ∧ W.cell? ⟨gPC, 2, none⟩ = some (.int .i64 0) ∧ W.cell? ⟨gPC, 3, none⟩ = some (.string ⟨#[]⟩) ∧ W.cell? ⟨gPC, 4, none⟩ = some (.slice A3 Nc c3) ∧ W.cell? ⟨g, 0, none⟩ = some (.int .i64 1) ∧ W.cell? ⟨g, 1, none⟩ = some (.int .i64 0) ∧ W.cell? ⟨g, 2, none⟩ = some (.int .i64 0) ∧ W.cell? ⟨g, 3, none⟩ = some (.string ⟨#[]⟩) ∧ W.cell? ⟨g, 4, none⟩ = some (.slice A n c) ∧ W.cell? ⟨g + 2, 0, none⟩ = some (.slice E p pc) ∧ W.cell? ⟨g + 2, 1, none⟩ = some (.slice F q qc) ∧ W.cell? ⟨g + 2, 2, none⟩ = some (.slice D s sc)) → Below W.heap.size W W' → (Below v40.heap.size v40 W' ∧ W'.cell? ⟨gPA, 0, none⟩ = some (.int .i64 1) ∧ W'.cell? ⟨gPA, 1, none⟩ = some (.int .i64 0) ∧ W'.cell? ⟨gPA, 2, none⟩ = some (.int .i64 0) ∧ W'.cell? ⟨gPA, 3, none⟩ = some (.string ⟨#[]⟩) ∧ W'.cell? ⟨gPA, 4, none⟩ = some (.slice A1 Na c1) ∧ W'.cell? ⟨gPB, 0, none⟩ = some (.int .i64 1) ∧ W'.cell? ⟨gPB, 1, none⟩ = some (.int .i64 0) ∧ W'.cell? ⟨gPB, 2, none⟩ = some (.int .i64 0) ∧ W'.cell? ⟨gPB, 3, none⟩ = some (.string ⟨#[]⟩) ∧ W'.cell? ⟨gPB, 4, none⟩ = some (.slice A2 Nb c2) ∧ W'.cell? ⟨gPC, 0, none⟩ = some (.int .i64 1) ∧ W'.cell? ⟨gPC, 1, none⟩ = some (.int .i64 0) ∧ W'.cell? ⟨gPC, 2, none⟩ = some (.int .i64 0) ∧ W'.cell? ⟨gPC, 3, none⟩ = some (.string ⟨#[]⟩) ∧ W'.cell? ⟨gPC, 4, none⟩ = some (.slice A3 Nc c3) ∧ W'.cell? ⟨g, 0, none⟩ = some (.int .i64 1) ∧ W'.cell? ⟨g, 1, none⟩ = some (.int .i64 0) ∧ W'.cell? ⟨g, 2, none⟩ = some (.int .i64 0) ∧ W'.cell? ⟨g, 3, none⟩ = some (.string ⟨#[]⟩) ∧ W'.cell? ⟨g, 4, none⟩ = some (.slice A n c) ∧ W'.cell? ⟨g + 2, 0, none⟩ = some (.slice E p pc) ∧ W'.cell? ⟨g + 2, 1, none⟩ = some (.slice F q qc) ∧ W'.cell? ⟨g + 2, 2, none⟩ = some (.slice D s sc))) := by
        rintro W W' ⟨kk, k0, k1, k2, k3, k4, k5, k6, k7, k8, k9, k10, k11, k12, k13, k14, k15, k16, k17, k18, k19, k20, k21, k22⟩ hb
        have hc : ∀ (p : Addr) (y : Value), W.cell? p = some y → W'.cell? p = some y := fun p y h2 => (hb.cell (World.block_lt_of_cell? _ _ h2)).trans h2
        exact ⟨below_then kk hb, hc _ _ k0, hc _ _ k1, hc _ _ k2, hc _ _ k3, hc _ _ k4, hc _ _ k5, hc _ _ k6, hc _ _ k7, hc _ _ k8, hc _ _ k9, hc _ _ k10, hc _ _ k11, hc _ _ k12, hc _ _ k13, hc _ _ k14, hc _ _ k15, hc _ _ k16, hc _ _ k17, hc _ _ k18, hc _ _ k19, hc _ _ k20, hc _ _ k21, hc _ _ k22⟩
      go_upto_region 14 with fail
      go_region_held3 (fun W => Below v40.heap.size v40 W ∧ W.cell? ⟨gPA, 0, none⟩ = some (.int .i64 1) ∧ W.cell? ⟨gPA, 1, none⟩ = some (.int .i64 0) ∧ W.cell? ⟨gPA, 2, none⟩ = some (.int .i64 0) ∧ W.cell? ⟨gPA, 3, none⟩ = some (.string ⟨#[]⟩) ∧ W.cell? ⟨gPA, 4, none⟩ = some (.slice A1 Na c1) ∧ W.cell? ⟨gPB, 0, none⟩ = some (.int .i64 1) ∧ W.cell? ⟨gPB, 1, none⟩ = some (.int .i64 0) ∧ W.cell? ⟨gPB, 2, none⟩ = some (.int .i64 0) ∧ W.cell? ⟨gPB, 3, none⟩ = some (.string ⟨#[]⟩) ∧ W.cell? ⟨gPB, 4, none⟩ = some (.slice A2 Nb c2) ∧ W.cell? ⟨gPC, 0, none⟩ = some (.int .i64 1) ∧ W.cell? ⟨gPC, 1, none⟩ = some (.int .i64 0) ∧ W.cell? ⟨gPC, 2, none⟩ = some (.int .i64 0) ∧ W.cell? ⟨gPC, 3, none⟩ = some (.string ⟨#[]⟩) ∧ W.cell? ⟨gPC, 4, none⟩ = some (.slice A3 Nc c3) ∧ W.cell? ⟨g, 0, none⟩ = some (.int .i64 1) ∧ W.cell? ⟨g, 1, none⟩ = some (.int .i64 0) ∧ W.cell? ⟨g, 2, none⟩ = some (.int .i64 0) ∧ W.cell? ⟨g, 3, none⟩ = some (.string ⟨#[]⟩) ∧ W.cell? ⟨g, 4, none⟩ = some (.slice A n c) ∧ W.cell? ⟨g + 2, 0, none⟩ = some (.slice E p pc) ∧ W.cell? ⟨g + 2, 1, none⟩ = some (.slice F q qc) ∧ W.cell? ⟨g + 2, 2, none⟩ = some (.slice D s sc))
        (first
          | exact K.out _ _ hS0 ((Below.refl _ _).drew)
          | exact K.out _ _ (by assumption) bb
          | exact K.out _ _ (by assumption) ((Below.refl _ _).alloc (Nat.le_refl _) _)
          | exact K.out _ _ hS0 (((Below.refl _ _).alloc (Nat.le_refl _) _).drew)
          | assumption)
        (first
          | (go_at_call 16; refine (alive7_any _).mono ?_; rintro e wx ⟨rfl, bb⟩)
          | (go_at_call 22; first
              | (clear mj1; refine (JN.out _ _ _ _ _ _ _ _ _ _ _ _ _ _ _ _ _ _ _ (RA.out.below (by first | exact Below.refl _ _ | exact (Below.refl _ _).drew | (go_split_ands; assumption))) (RB.out.below (by first | exact Below.refl _ _ | exact (Below.refl _ _).drew | (go_split_ands; assumption))) bA (RXX.out.below (by first | exact Below.refl _ _ | exact (Below.refl _ _).drew | (go_split_ands; assumption))) (RYY.out.below (by first | exact Below.refl _ _ | exact (Below.refl _ _).drew | (go_split_ands; assumption))) J1.out hNc.out).mono ?_; rintro e wx ⟨A9, d9, rfl, r1, bb⟩)
              | (clear mj2; refine (JN.out _ _ _ _ _ _ _ _ _ _ _ _ _ _ _ _ _ _ _ (RB.out.below (by first | exact Below.refl _ _ | exact (Below.refl _ _).drew | (go_split_ands; assumption))) (RA.out.below (by first | exact Below.refl _ _ | exact (Below.refl _ _).drew | (go_split_ands; assumption))) bB (RYY.out.below (by first | exact Below.refl _ _ | exact (Below.refl _ _).drew | (go_split_ands; assumption))) (RXX.out.below (by first | exact Below.refl _ _ | exact (Below.refl _ _).drew | (go_split_ands; assumption))) J2.out hNc.out).mono ?_; rintro e wx ⟨A9, d9, rfl, r1, bb⟩)
              | (clear mj3; refine (JN.out _ _ _ _ _ _ _ _ _ _ _ _ _ _ _ _ _ _ _ (RA.out.below (by first | exact Below.refl _ _ | exact (Below.refl _ _).drew | (go_split_ands; assumption))) (RA.out.below (by first | exact Below.refl _ _ | exact (Below.refl _ _).drew | (go_split_ands; assumption))) bC (RXX.out.below (by first | exact Below.refl _ _ | exact (Below.refl _ _).drew | (go_split_ands; assumption))) (RXX.out.below (by first | exact Below.refl _ _ | exact (Below.refl _ _).drew | (go_split_ands; assumption))) J3.out hNa.out).mono ?_; rintro e wx ⟨A9, d9, rfl, r1, bb⟩)
              | (clear mj4; refine (JN.out _ _ _ _ _ _ _ _ _ _ _ _ _ _ _ _ _ _ _ (RD.out.below (by first | exact Below.refl _ _ | exact (Below.refl _ _).drew | (go_split_ands; assumption))) (RA.out.below (by first | exact Below.refl _ _ | exact (Below.refl _ _).drew | (go_split_ands; assumption))) bD (R0.out.below (by first | exact Below.refl _ _ | exact (Below.refl _ _).drew | (go_split_ands; assumption))) (RXX.out.below (by first | exact Below.refl _ _ | exact (Below.refl _ _).drew | (go_split_ands; assumption))) J4.out hNa.out).mono ?_; rintro e wx ⟨A9, d9, rfl, r1, bb⟩))
          | (go_at_call 19; first
              | (clear ms1; refine (same7_is 1 zeroVal _ _ _ _ _ _ _ r1 (RC.out.below (by first | exact Below.refl _ _ | exact (Below.refl _ _).drew | (go_split_ands; assumption)))).mono ?_; rintro e wx ⟨rfl, bb⟩; clear r1)
              | (clear ms2; refine (same7_is 1 zeroVal _ _ _ _ _ _ _ r1 (RC.out.below (by first | exact Below.refl _ _ | exact (Below.refl _ _).drew | (go_split_ands; assumption)))).mono ?_; rintro e wx ⟨rfl, bb⟩; clear r1)
              | (clear ms3; refine (same7_is 1 zeroVal _ _ _ _ _ _ _ r1 (RA.out.below (by first | exact Below.refl _ _ | exact (Below.refl _ _).drew | (go_split_ands; assumption)))).mono ?_; rintro e wx ⟨rfl, bb⟩; clear r1)
              | (clear ms4; refine (same7_is 1 zeroVal _ _ _ _ _ _ _ r1 (RA.out.below (by first | exact Below.refl _ _ | exact (Below.refl _ _).drew | (go_split_ands; assumption)))).mono ?_; rintro e wx ⟨rfl, bb⟩; clear r1)))
      have hSz : Below v40.heap.size v40 wx ∧ wx.cell? ⟨gPA, 0, none⟩ = some (.int .i64 1) ∧ wx.cell? ⟨gPA, 1, none⟩ = some (.int .i64 0) ∧ wx.cell? ⟨gPA, 2, none⟩ = some (.int .i64 0) ∧ wx.cell? ⟨gPA, 3, none⟩ = some (.string ⟨#[]⟩) ∧ wx.cell? ⟨gPA, 4, none⟩ = some (.slice A1 Na c1) ∧ wx.cell? ⟨gPB, 0, none⟩ = some (.int .i64 1) ∧ wx.cell? ⟨gPB, 1, none⟩ = some (.int .i64 0) ∧ wx.cell? ⟨gPB, 2, none⟩ = some (.int .i64 0) ∧ wx.cell? ⟨gPB, 3, none⟩ = some (.string ⟨#[]⟩) ∧ wx.cell? ⟨gPB, 4, none⟩ = some (.slice A2 Nb c2) ∧ wx.cell? ⟨gPC, 0, none⟩ = some (.int .i64 1) ∧ wx.cell? ⟨gPC, 1, none⟩ = some (.int .i64 0) ∧ wx.cell? ⟨gPC, 2, none⟩ = some (.int .i64 0) ∧ wx.cell? ⟨gPC, 3, none⟩ = some (.string ⟨#[]⟩) ∧ wx.cell? ⟨gPC, 4, none⟩ = some (.slice A3 Nc c3) ∧ wx.cell? ⟨g, 0, none⟩ = some (.int .i64 1) ∧ wx.cell? ⟨g, 1, none⟩ = some (.int .i64 0) ∧ wx.cell? ⟨g, 2, none⟩ = some (.int .i64 0) ∧ wx.cell? ⟨g, 3, none⟩ = some (.string ⟨#[]⟩) ∧ wx.cell? ⟨g, 4, none⟩ = some (.slice A n c) ∧ wx.cell? ⟨g + 2, 0, none⟩ = some (.slice E p pc) ∧ wx.cell? ⟨g + 2, 1, none⟩ = some (.slice F q qc) ∧ wx.cell? ⟨g + 2, 2, none⟩ = some (.slice D s sc) := by assumption
      have HZ := below_then HB.out hSz.1
      go_wp2_with fail
      go_ret
      exact ⟨rfl, HZ⟩

set_option maxRecDepth 100000 in
theorem contract (H : Type) (enc : TypeId × Value → H) (W : World) (base : Nat) (args : Array Value) (ds gs : List (DataW H)) (before : List MemPlace)
    (hval : ∀ (j : Nat) t v, Try.f8.params[j]? = some t → args[j]? = some v → Value.okWide Try.prog W .any base t v)
    (hW : DataW.Whole enc Try.prog Try.f8.params.toList Rows.multiMeetsSpec.vars false W args.toList ds gs before)
    (hsz : (DataW.weightsEach Try.prog (Try.f8.params.toList ++ Rows.multiMeetsSpec.plain.varTypes Try.prog) (ds ++ gs)).all (· ≤ reachBytes) = true) :
    Calls Try.prog 8 args W fun e W' => ∃ v, e = .returned v ∧ Rows.multiMeetsSpec.post enc Try.prog Try.f8 false true false false W args v W' := by
  have hlt : ∀ x ∈ before, x.block < W.heap.size := fun x hx => by simpa using hW.lt x hx
  refine law_step 4 Try.laid_ (by kernel_rfl) rfl Try.underlying4 rfl hW (fun xs hx => ?_) ?_
  · match xs, hx with
    | [d0, d1, d2], _ => rfl
  · obtain ⟨p, q, hA0, hV, rfl, _, _⟩ := hW
    have hA : DataW.TrodAll enc Try.prog W 0 (fun _ => true) true Try.f8.params.toList args.toList ds p := hA0
    rw [Try.params8] at hA hval hsz
    obtain ⟨v0, vs0, d0, ds0, p0, q0, e0, rfl, rfl, h0, r0⟩ := trodAll_cons hA
    obtain ⟨v1, vs1, d1, ds1, p1, q1, e1, rfl, rfl, h1, r1⟩ := trodAll_cons r0
    obtain ⟨v2, vs2, d2, ds2, p2, q2, e2, rfl, rfl, h2, r2⟩ := trodAll_cons r1
    obtain ⟨rfl, rfl, rfl⟩ := trodAll_nil r2
    subst e2
    subst e1
    obtain rfl : args = #[v0, v1, v2] := by cases args; simp_all
    clear e0 hA0
    obtain ⟨k0, u0, A0, n0, c0, l, rfl, rd0, wk0, wu0, wl0⟩ := open_cell (hval 0 26 v0 rfl rfl) h0
    obtain ⟨x1, y1, rfl, wx1, wy1⟩ := open_val2 (hval 1 46 v1 rfl rfl) h1
    have hw2 : ∀ x ∈ d2.weights Try.prog 47, x ≤ reachBytes := fun x hx => by simpa using List.all_eq_true.1 hsz _ (DataW.weights_mem_each (j := 2) rfl rfl x hx)
    obtain ⟨E2, p2, pc2, na2, F2, q2, qc2, nb2, D2, s2, sc2, nc2, rfl, rda2, rdb2, rdc2, za2, zb2, zc2⟩ := open_vec3z (hval 2 47 v2 rfl rfl) h2 hw2
    exact walk k0 u0 A0 E2 F2 D2 n0 c0 p2 pc2 q2 qc2 s2 sc2 l x1 y1 na2 nb2 nc2 W rd0 rda2 rdb2 rdc2 za2 zb2 zc2

set_option maxRecDepth 100000 in
theorem lifted (os : Os) (started : os.Started) (H : Type) (enc : TypeId × Value → H) :
    ReturnsInHanded {} Try.checked os 8 .any (Rows.multiMeetsSpec.pre6 enc Try.prog Try.f8 Rows.multiMeetsRow.domain false) (Rows.multiMeetsSpec.post enc Try.prog Try.f8 false true false false) := by
  refine returnsInHanded_of_change_sized (C := Try.checked) Try.own_ started (by kernel_rfl) Try.func8
    (ChangeSpec.witness6 (enc := enc) (C := Try.checked) false ⟨#[], #[.agg #[.int .i64 0, .int .i64 0, .int .i64 0, .string ⟨#[]⟩, .slice none 0 0], .agg #[.int .i64 0, .int .i64 0, .string ⟨#[]⟩, .int .i64 0, .int .i64 0, .string ⟨#[]⟩], .agg #[.slice none 0 0, .slice none 0 0, .slice none 0 0]], []⟩ 8 (by kernel_rfl) (by kernel_rfl) (by kernel_rfl) (by kernel_rfl)) ?_
  intro W base args ds gs before hval hW _ hsz _
  exact contract H enc W base args ds gs before hval hW hsz

theorem holds : Rows.MultiMeetsSaid :=
  OpenClaim.holds_of_wide 8 Try.f8 rfl rfl rfl rfl rfl rfl rfl ⟨rfl, rfl, rfl, rfl, rfl⟩ rfl rfl rfl rfl rfl (by kernel_rfl) Try.func8 (by kernel_rfl)
    (of_decide_eq_true (by kernel_rfl)) (by unfold Func.isWrapper; first | (rw [if_pos (by decide +kernel)]; kernel_rfl) | (rw [if_neg (by decide +kernel)]; exact ⟨rfl, rfl⟩))
    (fun os started H enc _ => lifted os started H enc)
end Go.Proofs.Ytieaobeidlhefaa.multiMeets
