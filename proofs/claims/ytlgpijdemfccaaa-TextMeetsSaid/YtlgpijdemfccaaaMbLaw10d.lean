/- Two writers who do not know of each other come to one text. Of all cells, stamps, strings, names. -/
import Derived.Test.YtlgpijdemfccaaaRows
import Derived.Test.YtlgpijdemfccaaaMbBase
import Derived.Test.YtlgpijdemfccaaaMbTMeet
import Derived.Test.YtlgpijdemfccaaaMbOpen
import Derived.Test.YtlgpijdemfccaaaMbVecOpen
import Derived.Test.YtlgpijdemfccaaaMbClkOpen
import Derived.Test.YtlgpijdemfccaaaMbVecDot
namespace Go.Proofs.Ytlgpijdemfccaaa.textMeets
open Go.ChangeShapes Go.WideShapes Go.ChangeAt Go.RowKit Go.ChangeMaps

set_option maxRecDepth 100000 in
set_option maxHeartbeats 12800000 in
theorem walk (kd : Int) (u : V3) (A : Option Addr) (n c : Nat) (l : List P11) (xt xd xq yt yd yq : Int) (SB : Option Addr) (ns cs : Nat) (ss : List ByteArray) (TB : Option Addr) (nt ct : Nat) (tt : List ByteArray) (px py i qx qy k : Int) (w : World) (h : RdP w A n c l) (hs : RdT w SB ns cs ss) (ht : RdT w TB nt ct tt) :
    Calls Try.prog 4 #[cellV kd u (.slice A n c), .agg #[.int .i64 xt, .int .i64 xd, .int .i64 xq], .agg #[.int .i64 yt, .int .i64 yd, .int .i64 yq], .slice SB ns cs, .slice TB nt ct, .agg #[.int .i64 px, .int .i64 py], .int .i64 i, .agg #[.int .i64 qx, .int .i64 qy], .int .i64 k] w fun e w' => e = .returned (.bool true) ∧ Below w.heap.size w w' := by
  have HB := Lib.hid (Below.refl w.heap.size w)
  have HLN := Lib.hid h.len
  have hle := h.le
  have RD := Lib.hid h
  have SD := Lib.hid hs
  have TD := Lib.hid ht
  have HSN := Lib.hid hs.len
  have HTN := Lib.hid ht.len
  have hles := hs.le
  have hlet := ht.le
  clear h hs ht
  by_cases hn : n ≤ 40
  rotate_left
  · have FW : Hid (∀ W : World, Calls Try.prog 7 #[cellV kd u (.slice A n c)] W fun e w' => e = .returned (.bool false) ∧ Below W.heap.size W w') := by
      intro W
      have := small_any kd u A n c W
      rwa [decide_eq_false (by omega)] at this
    clear hn
    obtain ⟨g, hg⟩ : ∃ g, g = w.heap.size := ⟨_, rfl⟩
    obtain ⟨w0, hw0⟩ : ∃ w1, w1 = (((((w.alloc (cellRow kd u (.slice A n c))).alloc (.cells #[.int .i64 xt, .int .i64 xd, .int .i64 xq] 37)).alloc (.cells #[.int .i64 yt, .int .i64 yd, .int .i64 yq] 37)).alloc (dotRowT ⟨px, py⟩)).alloc (dotRowT ⟨qx, qy⟩)) := ⟨_, rfl⟩
    have HW0 := Lib.hid hw0; have HG := Lib.hid hg
    have hat : ∀ (w : World) (o : Obj) (g : Nat), w.heap.size = g → (w.alloc o).heap[g]? = some o := fun w o g h => by subst h; exact heap_alloc_new _ _
    have bb : Below w.heap.size w w0 := by rw [hw0]; exact below_new (below_new (below_new (below_new (below_new (Below.refl _ _) _) _) _) _) _
    have RX : Hid (w0.heap[g]? = some (cellRow kd u (.slice A n c))) := by
      show _ = _
      rw [hw0, hg]
      rw [Below.heap_alloc _ _ _ (by simp only [World.size_alloc]; omega), Below.heap_alloc _ _ _ (by simp only [World.size_alloc]; omega), Below.heap_alloc _ _ _ (by simp only [World.size_alloc]; omega), Below.heap_alloc _ _ _ (by simp only [World.size_alloc]; omega)]
      exact hat _ _ _ rfl
    have RA : Hid (w0.heap[g + 1]? = some (.cells #[.int .i64 xt, .int .i64 xd, .int .i64 xq] 37)) := by
      show _ = _
      rw [hw0, hg]
      rw [Below.heap_alloc _ _ _ (by simp only [World.size_alloc]; omega), Below.heap_alloc _ _ _ (by simp only [World.size_alloc]; omega), Below.heap_alloc _ _ _ (by simp only [World.size_alloc]; omega)]
      exact hat _ _ _ (by simp only [World.size_alloc])
    have RB : Hid (w0.heap[g + 2]? = some (.cells #[.int .i64 yt, .int .i64 yd, .int .i64 yq] 37)) := by
      show _ = _
      rw [hw0, hg]
      rw [Below.heap_alloc _ _ _ (by simp only [World.size_alloc]; omega), Below.heap_alloc _ _ _ (by simp only [World.size_alloc]; omega)]
      exact hat _ _ _ (by simp only [World.size_alloc])
    have RP : Hid (w0.heap[g + 3]? = some (dotRowT ⟨px, py⟩)) := by
      show _ = _
      rw [hw0, hg]
      rw [Below.heap_alloc _ _ _ (by simp only [World.size_alloc]; omega)]
      exact hat _ _ _ (by simp only [World.size_alloc])
    have RQ : Hid (w0.heap[g + 4]? = some (dotRowT ⟨qx, qy⟩)) := by
      show _ = _
      rw [hw0, hg]
      skip
      exact hat _ _ _ (by simp only [World.size_alloc])
    replace RD := Lib.hid (RD.out.below bb)
    replace SD := Lib.hid (SD.out.below bb)
    replace TD := Lib.hid (TD.out.below bb)
    replace HB := Lib.hid (below_then HB.out bb)
    clear bb hg hw0 hat
    go_enter Try.func4, Try.ntmps4
    go_upto_region 1 with fail
    rw [← HG.out]
    rw [show (((((w.alloc (Obj.cells #[Value.int .i64 kd, .int .i64 u.k, .int .i64 u.n, .string u.s, .slice A n c] 26)).alloc (Obj.cells #[Value.int .i64 xt, .int .i64 xd, .int .i64 xq] 37)).alloc (Obj.cells #[Value.int .i64 yt, .int .i64 yd, .int .i64 yq] 37)).alloc (Obj.cells #[Value.int .i64 px, .int .i64 py] 40)).alloc (Obj.cells #[Value.int .i64 qx, .int .i64 qy] 40)) = w0 from HW0.out.symm]
    clear HW0
    go_wp2_with fail
    refine (alive10_any _).mono ?_
    rintro e v1 ⟨rfl, bb⟩
    replace RX := Lib.hid (row_below RX.out bb)
    replace RA := Lib.hid (row_below RA.out bb)
    replace RB := Lib.hid (row_below RB.out bb)
    replace RP := Lib.hid (row_below RP.out bb)
    replace RQ := Lib.hid (row_below RQ.out bb)
    replace RD := Lib.hid (RD.out.below bb)
    replace SD := Lib.hid (SD.out.below bb)
    replace TD := Lib.hid (TD.out.below bb)
    replace HB := Lib.hid (below_then HB.out bb)
    clear bb
    obtain ⟨RX0, RX1, RX2, RX3, RX4⟩ := cell_row5 RX.out
    go_wp2_with fail
    refine (FW.out _).mono ?_
    rintro e v2 ⟨rfl, bb⟩
    replace RX := Lib.hid (row_below RX.out bb)
    replace RA := Lib.hid (row_below RA.out bb)
    replace RB := Lib.hid (row_below RB.out bb)
    replace RP := Lib.hid (row_below RP.out bb)
    replace RQ := Lib.hid (row_below RQ.out bb)
    replace RD := Lib.hid (RD.out.below bb)
    replace SD := Lib.hid (SD.out.below bb)
    replace TD := Lib.hid (TD.out.below bb)
    replace HB := Lib.hid (below_then HB.out bb)
    clear bb
    clear RX0 RX1 RX2 RX3 RX4
    go_wp2_with fail
    go_ret
    exact ⟨rfl, HB.out⟩
  by_cases hs : ns ≤ 4
  rotate_left
  · have FW : Hid (∀ W : World, Calls Try.prog 7 #[cellV kd u (.slice A n c)] W fun e w' => e = .returned (.bool true) ∧ Below W.heap.size W w') := by
      intro W
      have := small_any kd u A n c W
      rwa [decide_eq_true (by omega)] at this
    have hs1 : (4 : Int) < (ns : Int) := by omega
    clear hn hs
    obtain ⟨g, hg⟩ : ∃ g, g = w.heap.size := ⟨_, rfl⟩
    obtain ⟨w0, hw0⟩ : ∃ w1, w1 = (((((w.alloc (cellRow kd u (.slice A n c))).alloc (.cells #[.int .i64 xt, .int .i64 xd, .int .i64 xq] 37)).alloc (.cells #[.int .i64 yt, .int .i64 yd, .int .i64 yq] 37)).alloc (dotRowT ⟨px, py⟩)).alloc (dotRowT ⟨qx, qy⟩)) := ⟨_, rfl⟩
    have HW0 := Lib.hid hw0; have HG := Lib.hid hg
    have hat : ∀ (w : World) (o : Obj) (g : Nat), w.heap.size = g → (w.alloc o).heap[g]? = some o := fun w o g h => by subst h; exact heap_alloc_new _ _
    have bb : Below w.heap.size w w0 := by rw [hw0]; exact below_new (below_new (below_new (below_new (below_new (Below.refl _ _) _) _) _) _) _
    have RX : Hid (w0.heap[g]? = some (cellRow kd u (.slice A n c))) := by
      show _ = _
      rw [hw0, hg]
      rw [Below.heap_alloc _ _ _ (by simp only [World.size_alloc]; omega), Below.heap_alloc _ _ _ (by simp only [World.size_alloc]; omega), Below.heap_alloc _ _ _ (by simp only [World.size_alloc]; omega), Below.heap_alloc _ _ _ (by simp only [World.size_alloc]; omega)]
      exact hat _ _ _ rfl
    have RA : Hid (w0.heap[g + 1]? = some (.cells #[.int .i64 xt, .int .i64 xd, .int .i64 xq] 37)) := by
      show _ = _
      rw [hw0, hg]
      rw [Below.heap_alloc _ _ _ (by simp only [World.size_alloc]; omega), Below.heap_alloc _ _ _ (by simp only [World.size_alloc]; omega), Below.heap_alloc _ _ _ (by simp only [World.size_alloc]; omega)]
      exact hat _ _ _ (by simp only [World.size_alloc])
    have RB : Hid (w0.heap[g + 2]? = some (.cells #[.int .i64 yt, .int .i64 yd, .int .i64 yq] 37)) := by
      show _ = _
      rw [hw0, hg]
      rw [Below.heap_alloc _ _ _ (by simp only [World.size_alloc]; omega), Below.heap_alloc _ _ _ (by simp only [World.size_alloc]; omega)]
      exact hat _ _ _ (by simp only [World.size_alloc])
    have RP : Hid (w0.heap[g + 3]? = some (dotRowT ⟨px, py⟩)) := by
      show _ = _
      rw [hw0, hg]
      rw [Below.heap_alloc _ _ _ (by simp only [World.size_alloc]; omega)]
      exact hat _ _ _ (by simp only [World.size_alloc])
    have RQ : Hid (w0.heap[g + 4]? = some (dotRowT ⟨qx, qy⟩)) := by
      show _ = _
      rw [hw0, hg]
      skip
      exact hat _ _ _ (by simp only [World.size_alloc])
    replace RD := Lib.hid (RD.out.below bb)
    replace SD := Lib.hid (SD.out.below bb)
    replace TD := Lib.hid (TD.out.below bb)
    replace HB := Lib.hid (below_then HB.out bb)
    clear bb hg hw0 hat
    go_enter Try.func4, Try.ntmps4
    go_upto_region 1 with fail
    rw [← HG.out]
    rw [show (((((w.alloc (Obj.cells #[Value.int .i64 kd, .int .i64 u.k, .int .i64 u.n, .string u.s, .slice A n c] 26)).alloc (Obj.cells #[Value.int .i64 xt, .int .i64 xd, .int .i64 xq] 37)).alloc (Obj.cells #[Value.int .i64 yt, .int .i64 yd, .int .i64 yq] 37)).alloc (Obj.cells #[Value.int .i64 px, .int .i64 py] 40)).alloc (Obj.cells #[Value.int .i64 qx, .int .i64 qy] 40)) = w0 from HW0.out.symm]
    clear HW0
    go_wp2_with fail
    refine (alive10_any _).mono ?_
    rintro e v1 ⟨rfl, bb⟩
    replace RX := Lib.hid (row_below RX.out bb)
    replace RA := Lib.hid (row_below RA.out bb)
    replace RB := Lib.hid (row_below RB.out bb)
    replace RP := Lib.hid (row_below RP.out bb)
    replace RQ := Lib.hid (row_below RQ.out bb)
    replace RD := Lib.hid (RD.out.below bb)
    replace SD := Lib.hid (SD.out.below bb)
    replace TD := Lib.hid (TD.out.below bb)
    replace HB := Lib.hid (below_then HB.out bb)
    clear bb
    obtain ⟨RX0, RX1, RX2, RX3, RX4⟩ := cell_row5 RX.out
    go_wp2_with fail
    refine (FW.out _).mono ?_
    rintro e v2 ⟨rfl, bb⟩
    replace RX := Lib.hid (row_below RX.out bb)
    replace RA := Lib.hid (row_below RA.out bb)
    replace RB := Lib.hid (row_below RB.out bb)
    replace RP := Lib.hid (row_below RP.out bb)
    replace RQ := Lib.hid (row_below RQ.out bb)
    replace RD := Lib.hid (RD.out.below bb)
    replace SD := Lib.hid (SD.out.below bb)
    replace TD := Lib.hid (TD.out.below bb)
    replace HB := Lib.hid (below_then HB.out bb)
    clear bb
    clear RX0 RX1 RX2 RX3 RX4
    go_wp2_with fail
    go_ret
    exact ⟨rfl, HB.out⟩
  by_cases ht : nt ≤ 4
  rotate_left
  · have FW : Hid (∀ W : World, Calls Try.prog 7 #[cellV kd u (.slice A n c)] W fun e w' => e = .returned (.bool true) ∧ Below W.heap.size W w') := by
      intro W
      have := small_any kd u A n c W
      rwa [decide_eq_true (by omega)] at this
    have hs1 : ¬ (4 : Int) < (ns : Int) := by omega
    have ht1 : (4 : Int) < (nt : Int) := by omega
    clear hn hs ht
    obtain ⟨g, hg⟩ : ∃ g, g = w.heap.size := ⟨_, rfl⟩
    obtain ⟨w0, hw0⟩ : ∃ w1, w1 = (((((w.alloc (cellRow kd u (.slice A n c))).alloc (.cells #[.int .i64 xt, .int .i64 xd, .int .i64 xq] 37)).alloc (.cells #[.int .i64 yt, .int .i64 yd, .int .i64 yq] 37)).alloc (dotRowT ⟨px, py⟩)).alloc (dotRowT ⟨qx, qy⟩)) := ⟨_, rfl⟩
    have HW0 := Lib.hid hw0; have HG := Lib.hid hg
    have hat : ∀ (w : World) (o : Obj) (g : Nat), w.heap.size = g → (w.alloc o).heap[g]? = some o := fun w o g h => by subst h; exact heap_alloc_new _ _
    have bb : Below w.heap.size w w0 := by rw [hw0]; exact below_new (below_new (below_new (below_new (below_new (Below.refl _ _) _) _) _) _) _
    have RX : Hid (w0.heap[g]? = some (cellRow kd u (.slice A n c))) := by
      show _ = _
      rw [hw0, hg]
      rw [Below.heap_alloc _ _ _ (by simp only [World.size_alloc]; omega), Below.heap_alloc _ _ _ (by simp only [World.size_alloc]; omega), Below.heap_alloc _ _ _ (by simp only [World.size_alloc]; omega), Below.heap_alloc _ _ _ (by simp only [World.size_alloc]; omega)]
      exact hat _ _ _ rfl
    have RA : Hid (w0.heap[g + 1]? = some (.cells #[.int .i64 xt, .int .i64 xd, .int .i64 xq] 37)) := by
      show _ = _
      rw [hw0, hg]
      rw [Below.heap_alloc _ _ _ (by simp only [World.size_alloc]; omega), Below.heap_alloc _ _ _ (by simp only [World.size_alloc]; omega), Below.heap_alloc _ _ _ (by simp only [World.size_alloc]; omega)]
      exact hat _ _ _ (by simp only [World.size_alloc])
    have RB : Hid (w0.heap[g + 2]? = some (.cells #[.int .i64 yt, .int .i64 yd, .int .i64 yq] 37)) := by
      show _ = _
      rw [hw0, hg]
      rw [Below.heap_alloc _ _ _ (by simp only [World.size_alloc]; omega), Below.heap_alloc _ _ _ (by simp only [World.size_alloc]; omega)]
      exact hat _ _ _ (by simp only [World.size_alloc])
    have RP : Hid (w0.heap[g + 3]? = some (dotRowT ⟨px, py⟩)) := by
      show _ = _
      rw [hw0, hg]
      rw [Below.heap_alloc _ _ _ (by simp only [World.size_alloc]; omega)]
      exact hat _ _ _ (by simp only [World.size_alloc])
    have RQ : Hid (w0.heap[g + 4]? = some (dotRowT ⟨qx, qy⟩)) := by
      show _ = _
      rw [hw0, hg]
      skip
      exact hat _ _ _ (by simp only [World.size_alloc])
    replace RD := Lib.hid (RD.out.below bb)
    replace SD := Lib.hid (SD.out.below bb)
    replace TD := Lib.hid (TD.out.below bb)
    replace HB := Lib.hid (below_then HB.out bb)
    clear bb hg hw0 hat
    go_enter Try.func4, Try.ntmps4
    go_upto_region 1 with fail
    rw [← HG.out]
    rw [show (((((w.alloc (Obj.cells #[Value.int .i64 kd, .int .i64 u.k, .int .i64 u.n, .string u.s, .slice A n c] 26)).alloc (Obj.cells #[Value.int .i64 xt, .int .i64 xd, .int .i64 xq] 37)).alloc (Obj.cells #[Value.int .i64 yt, .int .i64 yd, .int .i64 yq] 37)).alloc (Obj.cells #[Value.int .i64 px, .int .i64 py] 40)).alloc (Obj.cells #[Value.int .i64 qx, .int .i64 qy] 40)) = w0 from HW0.out.symm]
    clear HW0
    go_wp2_with fail
    refine (alive10_any _).mono ?_
    rintro e v1 ⟨rfl, bb⟩
    replace RX := Lib.hid (row_below RX.out bb)
    replace RA := Lib.hid (row_below RA.out bb)
    replace RB := Lib.hid (row_below RB.out bb)
    replace RP := Lib.hid (row_below RP.out bb)
    replace RQ := Lib.hid (row_below RQ.out bb)
    replace RD := Lib.hid (RD.out.below bb)
    replace SD := Lib.hid (SD.out.below bb)
    replace TD := Lib.hid (TD.out.below bb)
    replace HB := Lib.hid (below_then HB.out bb)
    clear bb
    obtain ⟨RX0, RX1, RX2, RX3, RX4⟩ := cell_row5 RX.out
    go_wp2_with fail
    refine (FW.out _).mono ?_
    rintro e v2 ⟨rfl, bb⟩
    replace RX := Lib.hid (row_below RX.out bb)
    replace RA := Lib.hid (row_below RA.out bb)
    replace RB := Lib.hid (row_below RB.out bb)
    replace RP := Lib.hid (row_below RP.out bb)
    replace RQ := Lib.hid (row_below RQ.out bb)
    replace RD := Lib.hid (RD.out.below bb)
    replace SD := Lib.hid (SD.out.below bb)
    replace TD := Lib.hid (TD.out.below bb)
    replace HB := Lib.hid (below_then HB.out bb)
    clear bb
    clear RX0 RX1 RX2 RX3 RX4
    go_wp2_with fail
    go_ret
    exact ⟨rfl, HB.out⟩
  by_cases hab : xd = yd ∧ xq = yq
  · have FW : Hid (∀ W : World, Calls Try.prog 7 #[cellV kd u (.slice A n c)] W fun e w' => e = .returned (.bool true) ∧ Below W.heap.size W w') := by
      intro W
      have := small_any kd u A n c W
      rwa [decide_eq_true (by omega)] at this
    have hs1 : ¬ (4 : Int) < (ns : Int) := by omega
    have ht1 : ¬ (4 : Int) < (nt : Int) := by omega
    have hd1 : (xd == yd) = true := by simpa using hab.1
    have hq1 : (xq == yq) = true := by simpa using hab.2
    clear hn hs ht hab
    obtain ⟨g, hg⟩ : ∃ g, g = w.heap.size := ⟨_, rfl⟩
    obtain ⟨w0, hw0⟩ : ∃ w1, w1 = (((((w.alloc (cellRow kd u (.slice A n c))).alloc (.cells #[.int .i64 xt, .int .i64 xd, .int .i64 xq] 37)).alloc (.cells #[.int .i64 yt, .int .i64 yd, .int .i64 yq] 37)).alloc (dotRowT ⟨px, py⟩)).alloc (dotRowT ⟨qx, qy⟩)) := ⟨_, rfl⟩
    have HW0 := Lib.hid hw0; have HG := Lib.hid hg
    have hat : ∀ (w : World) (o : Obj) (g : Nat), w.heap.size = g → (w.alloc o).heap[g]? = some o := fun w o g h => by subst h; exact heap_alloc_new _ _
    have bb : Below w.heap.size w w0 := by rw [hw0]; exact below_new (below_new (below_new (below_new (below_new (Below.refl _ _) _) _) _) _) _
    have RX : Hid (w0.heap[g]? = some (cellRow kd u (.slice A n c))) := by
      show _ = _
      rw [hw0, hg]
      rw [Below.heap_alloc _ _ _ (by simp only [World.size_alloc]; omega), Below.heap_alloc _ _ _ (by simp only [World.size_alloc]; omega), Below.heap_alloc _ _ _ (by simp only [World.size_alloc]; omega), Below.heap_alloc _ _ _ (by simp only [World.size_alloc]; omega)]
      exact hat _ _ _ rfl
    have RA : Hid (w0.heap[g + 1]? = some (.cells #[.int .i64 xt, .int .i64 xd, .int .i64 xq] 37)) := by
      show _ = _
      rw [hw0, hg]
      rw [Below.heap_alloc _ _ _ (by simp only [World.size_alloc]; omega), Below.heap_alloc _ _ _ (by simp only [World.size_alloc]; omega), Below.heap_alloc _ _ _ (by simp only [World.size_alloc]; omega)]
      exact hat _ _ _ (by simp only [World.size_alloc])
    have RB : Hid (w0.heap[g + 2]? = some (.cells #[.int .i64 yt, .int .i64 yd, .int .i64 yq] 37)) := by
      show _ = _
      rw [hw0, hg]
      rw [Below.heap_alloc _ _ _ (by simp only [World.size_alloc]; omega), Below.heap_alloc _ _ _ (by simp only [World.size_alloc]; omega)]
      exact hat _ _ _ (by simp only [World.size_alloc])
    have RP : Hid (w0.heap[g + 3]? = some (dotRowT ⟨px, py⟩)) := by
      show _ = _
      rw [hw0, hg]
      rw [Below.heap_alloc _ _ _ (by simp only [World.size_alloc]; omega)]
      exact hat _ _ _ (by simp only [World.size_alloc])
    have RQ : Hid (w0.heap[g + 4]? = some (dotRowT ⟨qx, qy⟩)) := by
      show _ = _
      rw [hw0, hg]
      skip
      exact hat _ _ _ (by simp only [World.size_alloc])
    replace RD := Lib.hid (RD.out.below bb)
    replace SD := Lib.hid (SD.out.below bb)
    replace TD := Lib.hid (TD.out.below bb)
    replace HB := Lib.hid (below_then HB.out bb)
    clear bb hg hw0 hat
    go_enter Try.func4, Try.ntmps4
    go_upto_region 1 with fail
    rw [← HG.out]
    rw [show (((((w.alloc (Obj.cells #[Value.int .i64 kd, .int .i64 u.k, .int .i64 u.n, .string u.s, .slice A n c] 26)).alloc (Obj.cells #[Value.int .i64 xt, .int .i64 xd, .int .i64 xq] 37)).alloc (Obj.cells #[Value.int .i64 yt, .int .i64 yd, .int .i64 yq] 37)).alloc (Obj.cells #[Value.int .i64 px, .int .i64 py] 40)).alloc (Obj.cells #[Value.int .i64 qx, .int .i64 qy] 40)) = w0 from HW0.out.symm]
    clear HW0
    go_wp2_with fail
    refine (alive10_any _).mono ?_
    rintro e v1 ⟨rfl, bb⟩
    replace RX := Lib.hid (row_below RX.out bb)
    replace RA := Lib.hid (row_below RA.out bb)
    replace RB := Lib.hid (row_below RB.out bb)
    replace RP := Lib.hid (row_below RP.out bb)
    replace RQ := Lib.hid (row_below RQ.out bb)
    replace RD := Lib.hid (RD.out.below bb)
    replace SD := Lib.hid (SD.out.below bb)
    replace TD := Lib.hid (TD.out.below bb)
    replace HB := Lib.hid (below_then HB.out bb)
    clear bb
    obtain ⟨RX0, RX1, RX2, RX3, RX4⟩ := cell_row5 RX.out
    go_wp2_with fail
    refine (FW.out _).mono ?_
    rintro e v2 ⟨rfl, bb⟩
    replace RX := Lib.hid (row_below RX.out bb)
    replace RA := Lib.hid (row_below RA.out bb)
    replace RB := Lib.hid (row_below RB.out bb)
    replace RP := Lib.hid (row_below RP.out bb)
    replace RQ := Lib.hid (row_below RQ.out bb)
    replace RD := Lib.hid (RD.out.below bb)
    replace SD := Lib.hid (SD.out.below bb)
    replace TD := Lib.hid (TD.out.below bb)
    replace HB := Lib.hid (below_then HB.out bb)
    clear bb
    clear RX0 RX1 RX2 RX3 RX4
    obtain ⟨RA0, RA1, RA2⟩ := stamp_at RA.out
    obtain ⟨RB0, RB1, RB2⟩ := stamp_at RB.out
    go_wp2_with fail
    go_ret
    exact ⟨rfl, HB.out⟩
  obtain ⟨r, hr⟩ : ∃ r, Hid (rightT10 kd u l = r) := ⟨_, rfl⟩
  obtain ⟨q1, hq1⟩ : ∃ q1, (xd == yd) = q1 := ⟨_, rfl⟩
  obtain ⟨q2, hq2⟩ : ∃ q2, (xq == yq) = q2 := ⟨_, rfl⟩
  have hq : ¬ (q1 = true ∧ q2 = true) := by rw [← hq1, ← hq2]; simpa using hab
  have HAB := Lib.hid hab
  clear hab
  by_cases hr0 : r = 0
  rotate_left
  · have FW : Hid (∀ W : World, Calls Try.prog 7 #[cellV kd u (.slice A n c)] W fun e w' => e = .returned (.bool true) ∧ Below W.heap.size W w') := by
      intro W
      have := small_any kd u A n c W
      rwa [decide_eq_true (by omega)] at this
    have CR : Hid (∀ W : World, RdP W A n c l → Calls Try.prog 8 #[cellV kd u (.slice A n c)] W fun e w' => e = .returned (.int .i64 r) ∧ Below W.heap.size W w') := by
      intro W hW
      have := rightT_any kd u A n c l W hW (by omega)
      rwa [hr.out] at this
    have hs1 : ¬ (4 : Int) < (ns : Int) := by omega
    have ht1 : ¬ (4 : Int) < (nt : Int) := by omega
    have hr1 : (r == 0) = false := by simpa using hr0
    have hr2 : (r != 0) = true := by simpa using hr0
    clear hn hs ht hr0
    obtain ⟨g, hg⟩ : ∃ g, g = w.heap.size := ⟨_, rfl⟩
    obtain ⟨w0, hw0⟩ : ∃ w1, w1 = (((((w.alloc (cellRow kd u (.slice A n c))).alloc (.cells #[.int .i64 xt, .int .i64 xd, .int .i64 xq] 37)).alloc (.cells #[.int .i64 yt, .int .i64 yd, .int .i64 yq] 37)).alloc (dotRowT ⟨px, py⟩)).alloc (dotRowT ⟨qx, qy⟩)) := ⟨_, rfl⟩
    have HW0 := Lib.hid hw0; have HG := Lib.hid hg
    have hat : ∀ (w : World) (o : Obj) (g : Nat), w.heap.size = g → (w.alloc o).heap[g]? = some o := fun w o g h => by subst h; exact heap_alloc_new _ _
    have bb : Below w.heap.size w w0 := by rw [hw0]; exact below_new (below_new (below_new (below_new (below_new (Below.refl _ _) _) _) _) _) _
    have RX : Hid (w0.heap[g]? = some (cellRow kd u (.slice A n c))) := by
      show _ = _
      rw [hw0, hg]
      rw [Below.heap_alloc _ _ _ (by simp only [World.size_alloc]; omega), Below.heap_alloc _ _ _ (by simp only [World.size_alloc]; omega), Below.heap_alloc _ _ _ (by simp only [World.size_alloc]; omega), Below.heap_alloc _ _ _ (by simp only [World.size_alloc]; omega)]
      exact hat _ _ _ rfl
    have RA : Hid (w0.heap[g + 1]? = some (.cells #[.int .i64 xt, .int .i64 xd, .int .i64 xq] 37)) := by
      show _ = _
      rw [hw0, hg]
      rw [Below.heap_alloc _ _ _ (by simp only [World.size_alloc]; omega), Below.heap_alloc _ _ _ (by simp only [World.size_alloc]; omega), Below.heap_alloc _ _ _ (by simp only [World.size_alloc]; omega)]
      exact hat _ _ _ (by simp only [World.size_alloc])
    have RB : Hid (w0.heap[g + 2]? = some (.cells #[.int .i64 yt, .int .i64 yd, .int .i64 yq] 37)) := by
      show _ = _
      rw [hw0, hg]
      rw [Below.heap_alloc _ _ _ (by simp only [World.size_alloc]; omega), Below.heap_alloc _ _ _ (by simp only [World.size_alloc]; omega)]
      exact hat _ _ _ (by simp only [World.size_alloc])
    have RP : Hid (w0.heap[g + 3]? = some (dotRowT ⟨px, py⟩)) := by
      show _ = _
      rw [hw0, hg]
      rw [Below.heap_alloc _ _ _ (by simp only [World.size_alloc]; omega)]
      exact hat _ _ _ (by simp only [World.size_alloc])
    have RQ : Hid (w0.heap[g + 4]? = some (dotRowT ⟨qx, qy⟩)) := by
      show _ = _
      rw [hw0, hg]
      skip
      exact hat _ _ _ (by simp only [World.size_alloc])
    replace RD := Lib.hid (RD.out.below bb)
    replace SD := Lib.hid (SD.out.below bb)
    replace TD := Lib.hid (TD.out.below bb)
    replace HB := Lib.hid (below_then HB.out bb)
    clear bb hg hw0 hat
    go_enter Try.func4, Try.ntmps4
    go_upto_region 1 with fail
    rw [← HG.out]
    rw [show (((((w.alloc (Obj.cells #[Value.int .i64 kd, .int .i64 u.k, .int .i64 u.n, .string u.s, .slice A n c] 26)).alloc (Obj.cells #[Value.int .i64 xt, .int .i64 xd, .int .i64 xq] 37)).alloc (Obj.cells #[Value.int .i64 yt, .int .i64 yd, .int .i64 yq] 37)).alloc (Obj.cells #[Value.int .i64 px, .int .i64 py] 40)).alloc (Obj.cells #[Value.int .i64 qx, .int .i64 qy] 40)) = w0 from HW0.out.symm]
    clear HW0
    go_wp2_with fail
    refine (alive10_any _).mono ?_
    rintro e v1 ⟨rfl, bb⟩
    replace RX := Lib.hid (row_below RX.out bb)
    replace RA := Lib.hid (row_below RA.out bb)
    replace RB := Lib.hid (row_below RB.out bb)
    replace RP := Lib.hid (row_below RP.out bb)
    replace RQ := Lib.hid (row_below RQ.out bb)
    replace RD := Lib.hid (RD.out.below bb)
    replace SD := Lib.hid (SD.out.below bb)
    replace TD := Lib.hid (TD.out.below bb)
    replace HB := Lib.hid (below_then HB.out bb)
    clear bb
    obtain ⟨RX0, RX1, RX2, RX3, RX4⟩ := cell_row5 RX.out
    go_wp2_with fail
    refine (FW.out _).mono ?_
    rintro e v2 ⟨rfl, bb⟩
    replace RX := Lib.hid (row_below RX.out bb)
    replace RA := Lib.hid (row_below RA.out bb)
    replace RB := Lib.hid (row_below RB.out bb)
    replace RP := Lib.hid (row_below RP.out bb)
    replace RQ := Lib.hid (row_below RQ.out bb)
    replace RD := Lib.hid (RD.out.below bb)
    replace SD := Lib.hid (SD.out.below bb)
    replace TD := Lib.hid (TD.out.below bb)
    replace HB := Lib.hid (below_then HB.out bb)
    clear bb
    clear RX0 RX1 RX2 RX3 RX4
    obtain ⟨RX0, RX1, RX2, RX3, RX4⟩ := cell_row5 RX.out
    obtain ⟨RA0, RA1, RA2⟩ := stamp_at RA.out
    obtain ⟨RB0, RB1, RB2⟩ := stamp_at RB.out
    cases q1 <;> cases q2
    rotate_right
    · exact absurd ⟨rfl, rfl⟩ hq
    all_goals
      clear hq
      go_wp2_with fail
      refine (CR.out _ RD.out).mono ?_
      rintro e wx ⟨rfl, bb⟩
      have HZ := Lib.hid (below_then HB.out bb)
      clear bb
      go_wp2_with fail
      go_ret
      exact ⟨rfl, HZ.out⟩
  subst hr0
  have FW : Hid (∀ W : World, Calls Try.prog 7 #[cellV kd u (.slice A n c)] W fun e w' => e = .returned (.bool true) ∧ Below W.heap.size W w') := by
    intro W
    have := small_any kd u A n c W
    rwa [decide_eq_true (by omega)] at this
  have CR : Hid (∀ W : World, RdP W A n c l → Calls Try.prog 8 #[cellV kd u (.slice A n c)] W fun e w' => e = .returned (.int .i64 0) ∧ Below W.heap.size W w') := by
    intro W hW
    have := rightT_any kd u A n c l W hW (by omega)
    rwa [hr.out] at this
  have hs1 : ¬ (4 : Int) < (ns : Int) := by omega
  have ht1 : ¬ (4 : Int) < (nt : Int) := by omega
  have HN := Lib.hid hn; have HS4 := Lib.hid hs; have HT4 := Lib.hid ht
  clear hn hs ht
  obtain ⟨g, hg⟩ : ∃ g, g = w.heap.size := ⟨_, rfl⟩
  obtain ⟨w0, hw0⟩ : ∃ w1, w1 = (((((w.alloc (cellRow kd u (.slice A n c))).alloc (.cells #[.int .i64 xt, .int .i64 xd, .int .i64 xq] 37)).alloc (.cells #[.int .i64 yt, .int .i64 yd, .int .i64 yq] 37)).alloc (dotRowT ⟨px, py⟩)).alloc (dotRowT ⟨qx, qy⟩)) := ⟨_, rfl⟩
  have HW0 := Lib.hid hw0; have HG := Lib.hid hg
  have hat : ∀ (w : World) (o : Obj) (g : Nat), w.heap.size = g → (w.alloc o).heap[g]? = some o := fun w o g h => by subst h; exact heap_alloc_new _ _
  have bb : Below w.heap.size w w0 := by rw [hw0]; exact below_new (below_new (below_new (below_new (below_new (Below.refl _ _) _) _) _) _) _
  have RX : Hid (w0.heap[g]? = some (cellRow kd u (.slice A n c))) := by
    show _ = _
    rw [hw0, hg]
    rw [Below.heap_alloc _ _ _ (by simp only [World.size_alloc]; omega), Below.heap_alloc _ _ _ (by simp only [World.size_alloc]; omega), Below.heap_alloc _ _ _ (by simp only [World.size_alloc]; omega), Below.heap_alloc _ _ _ (by simp only [World.size_alloc]; omega)]
    exact hat _ _ _ rfl
  have RA : Hid (w0.heap[g + 1]? = some (.cells #[.int .i64 xt, .int .i64 xd, .int .i64 xq] 37)) := by
    show _ = _
    rw [hw0, hg]
    rw [Below.heap_alloc _ _ _ (by simp only [World.size_alloc]; omega), Below.heap_alloc _ _ _ (by simp only [World.size_alloc]; omega), Below.heap_alloc _ _ _ (by simp only [World.size_alloc]; omega)]
    exact hat _ _ _ (by simp only [World.size_alloc])
  have RB : Hid (w0.heap[g + 2]? = some (.cells #[.int .i64 yt, .int .i64 yd, .int .i64 yq] 37)) := by
    show _ = _
    rw [hw0, hg]
    rw [Below.heap_alloc _ _ _ (by simp only [World.size_alloc]; omega), Below.heap_alloc _ _ _ (by simp only [World.size_alloc]; omega)]
    exact hat _ _ _ (by simp only [World.size_alloc])
  have RP : Hid (w0.heap[g + 3]? = some (dotRowT ⟨px, py⟩)) := by
    show _ = _
    rw [hw0, hg]
    rw [Below.heap_alloc _ _ _ (by simp only [World.size_alloc]; omega)]
    exact hat _ _ _ (by simp only [World.size_alloc])
  have RQ : Hid (w0.heap[g + 4]? = some (dotRowT ⟨qx, qy⟩)) := by
    show _ = _
    rw [hw0, hg]
    skip
    exact hat _ _ _ (by simp only [World.size_alloc])
  replace RD := Lib.hid (RD.out.below bb)
  replace SD := Lib.hid (SD.out.below bb)
  replace TD := Lib.hid (TD.out.below bb)
  replace HB := Lib.hid (below_then HB.out bb)
  clear bb hg hw0 hat
  go_enter Try.func4, Try.ntmps4
  go_upto_region 1 with fail
  rw [← HG.out]
  rw [show (((((w.alloc (Obj.cells #[Value.int .i64 kd, .int .i64 u.k, .int .i64 u.n, .string u.s, .slice A n c] 26)).alloc (Obj.cells #[Value.int .i64 xt, .int .i64 xd, .int .i64 xq] 37)).alloc (Obj.cells #[Value.int .i64 yt, .int .i64 yd, .int .i64 yq] 37)).alloc (Obj.cells #[Value.int .i64 px, .int .i64 py] 40)).alloc (Obj.cells #[Value.int .i64 qx, .int .i64 qy] 40)) = w0 from HW0.out.symm]
  clear HW0
  go_wp2_with fail
  refine (alive10_any _).mono ?_
  rintro e v1 ⟨rfl, bb⟩
  replace RX := Lib.hid (row_below RX.out bb)
  replace RA := Lib.hid (row_below RA.out bb)
  replace RB := Lib.hid (row_below RB.out bb)
  replace RP := Lib.hid (row_below RP.out bb)
  replace RQ := Lib.hid (row_below RQ.out bb)
  replace RD := Lib.hid (RD.out.below bb)
  replace SD := Lib.hid (SD.out.below bb)
  replace TD := Lib.hid (TD.out.below bb)
  replace HB := Lib.hid (below_then HB.out bb)
  clear bb
  go_upto_region 2 with fail
  go_cut [57] from 26 to 57 (fun z wz => z = .bool false ∧ Hid (Below v1.heap.size v1 wz))
  case first =>
    have HV := Lib.hid (Below.refl v1.heap.size v1)
    obtain ⟨RX0, RX1, RX2, RX3, RX4⟩ := cell_row5 RX.out
    go_wp2_with fail
    refine (FW.out _).mono ?_
    rintro e wf ⟨rfl, bb⟩
    replace HV := Lib.hid (below_then HV.out bb)
    clear RX0 RX1 RX2 RX3 RX4
    replace RX := Lib.hid (row_below RX.out bb)
    replace RA := Lib.hid (row_below RA.out bb)
    replace RB := Lib.hid (row_below RB.out bb)
    replace RP := Lib.hid (row_below RP.out bb)
    replace RQ := Lib.hid (row_below RQ.out bb)
    replace RD := Lib.hid (RD.out.below bb)
    clear bb
    obtain ⟨RX0, RX1, RX2, RX3, RX4⟩ := cell_row5 RX.out
    obtain ⟨RA0, RA1, RA2⟩ := stamp_at RA.out
    obtain ⟨RB0, RB1, RB2⟩ := stamp_at RB.out
    cases q1 <;> cases q2
    rotate_right
    · exact absurd ⟨rfl, rfl⟩ hq
    all_goals
      clear hq
      go_wp2_with fail
      refine (CR.out _ RD.out).mono ?_
      rintro e wx ⟨rfl, bb⟩
      have HZ := Lib.hid (below_then HV.out bb)
      clear bb
      go_wp2_with fail
      go_meet
      first
      | exact ⟨rfl, HZ⟩
      | exact ⟨by simp [hs1, ht1], HZ⟩
  case rest =>
  obtain ⟨rfl, hb⟩ := hcut
  have bb := hb.out
  clear hb FW CR hs1 ht1
  replace RX := Lib.hid (row_below RX.out bb)
  replace RA := Lib.hid (row_below RA.out bb)
  replace RB := Lib.hid (row_below RB.out bb)
  replace RP := Lib.hid (row_below RP.out bb)
  replace RQ := Lib.hid (row_below RQ.out bb)
  replace RD := Lib.hid (RD.out.below bb)
  replace SD := Lib.hid (SD.out.below bb)
  replace TD := Lib.hid (TD.out.below bb)
  replace HB := Lib.hid (below_then HB.out bb)
  clear bb hq1 hq2 hq
  generalize wc = v2 at RX RA RB RP RQ RD SD TD HB ⊢
  go_wp2_with fail
  go_loopw [20] (fun z wr => ∃ m : Nat, m ≤ ns ∧ z = .int .i64 m ∧ Hid (∀ j, j < m → ∀ y : ByteArray, ss[j]? = some y → y.size ≤ 10) ∧ Hid (Below v2.heap.size v2 wr)) (fun z _ => ns - (intOf z).toNat)
  case atStart => exact ⟨0, Nat.zero_le _, rfl, Lib.hid (fun j hj => absurd hj (Nat.not_lt_zero _)), Lib.hid (Below.refl _ _)⟩
  case round =>
  obtain ⟨m, hm, rfl, HQ, HW⟩ := hrel
  by_cases hlt : m < ns
  · obtain ⟨b, o, y, rfl, hb, hx, hc⟩ := SD.out.str hlt
    have c0 := hc _ HW.out
    have z1 : (0 : Int) ≤ (m : Int) := by omega
    have z2 : (m : Int) < (ns : Int) := by omega
    have HQ2 : Hid (y.size ≤ 10 → ∀ j, j < m + 1 → ∀ y : ByteArray, ss[j]? = some y → y.size ≤ 10) := by
      intro hy j hj y' hy'
      rcases Nat.lt_or_eq_of_le (Nat.le_of_lt_succ hj) with h1 | h1
      · exact HQ.out j h1 y' hy'
      · subst h1; rw [hx] at hy'; obtain rfl := Option.some.inj hy'; exact hy
    clear hc hx
    by_cases hy : y.size ≤ 10
    · have z3 : ¬ (10 : Int) < (y.size : Int) := by omega
      go_wp2_with fail
      exact ⟨⟨m + 1, by omega, by go_num, Lib.hid (HQ2.out hy), HW⟩, by simp [intOf]; omega⟩
    · have z3 : (10 : Int) < (y.size : Int) := by omega
      go_wp2_with fail
      go_ret
      exact ⟨rfl, below_then HB.out HW.out⟩
  have z2 : ¬ (m : Int) < (ns : Int) := by omega
  have HSS : Hid (∀ j, j < ns → ∀ y : ByteArray, ss[j]? = some y → y.size ≤ 10) := by
    have : m = ns := by omega
    subst this; exact HQ.out
  have bb := HW.out
  replace RX := Lib.hid (row_below RX.out bb)
  replace RA := Lib.hid (row_below RA.out bb)
  replace RB := Lib.hid (row_below RB.out bb)
  replace RP := Lib.hid (row_below RP.out bb)
  replace RQ := Lib.hid (row_below RQ.out bb)
  replace RD := Lib.hid (RD.out.below bb)
  replace SD := Lib.hid (SD.out.below bb)
  replace TD := Lib.hid (TD.out.below bb)
  replace HB := Lib.hid (below_then HB.out bb)
  clear bb HQ HW
  go_upto_region 9 with fail
  clear z2 hlt hm
  generalize wr = v3 at RX RA RB RP RQ RD SD TD HB ⊢
  go_wp2_with fail
  go_loopw [21] (fun z wr => ∃ m : Nat, m ≤ nt ∧ z = .int .i64 m ∧ Hid (∀ j, j < m → ∀ y : ByteArray, tt[j]? = some y → y.size ≤ 10) ∧ Hid (Below v3.heap.size v3 wr)) (fun z _ => nt - (intOf z).toNat)
  case atStart => exact ⟨0, Nat.zero_le _, rfl, Lib.hid (fun j hj => absurd hj (Nat.not_lt_zero _)), Lib.hid (Below.refl _ _)⟩
  case round =>
  obtain ⟨m, hm, rfl, HQ, HW⟩ := hrel
  by_cases hlt : m < nt
  · obtain ⟨b, o, y, rfl, hb, hx, hc⟩ := TD.out.str hlt
    have c0 := hc _ HW.out
    have z1 : (0 : Int) ≤ (m : Int) := by omega
    have z2 : (m : Int) < (nt : Int) := by omega
    have HQ2 : Hid (y.size ≤ 10 → ∀ j, j < m + 1 → ∀ y : ByteArray, tt[j]? = some y → y.size ≤ 10) := by
      intro hy j hj y' hy'
      rcases Nat.lt_or_eq_of_le (Nat.le_of_lt_succ hj) with h1 | h1
      · exact HQ.out j h1 y' hy'
      · subst h1; rw [hx] at hy'; obtain rfl := Option.some.inj hy'; exact hy
    clear hc hx
    by_cases hy : y.size ≤ 10
    · have z3 : ¬ (10 : Int) < (y.size : Int) := by omega
      go_wp2_with fail
      exact ⟨⟨m + 1, by omega, by go_num, Lib.hid (HQ2.out hy), HW⟩, by simp [intOf]; omega⟩
    · have z3 : (10 : Int) < (y.size : Int) := by omega
      go_wp2_with fail
      go_ret
      exact ⟨rfl, below_then HB.out HW.out⟩
  have z2 : ¬ (m : Int) < (nt : Int) := by omega
  have HTT : Hid (∀ j, j < nt → ∀ y : ByteArray, tt[j]? = some y → y.size ≤ 10) := by
    have : m = nt := by omega
    subst this; exact HQ.out
  have bb := HW.out
  replace RX := Lib.hid (row_below RX.out bb)
  replace RA := Lib.hid (row_below RA.out bb)
  replace RB := Lib.hid (row_below RB.out bb)
  replace RP := Lib.hid (row_below RP.out bb)
  replace RQ := Lib.hid (row_below RQ.out bb)
  replace RD := Lib.hid (RD.out.below bb)
  replace SD := Lib.hid (SD.out.below bb)
  replace TD := Lib.hid (TD.out.below bb)
  replace HB := Lib.hid (below_then HB.out bb)
  clear bb HQ HW
  go_upto_region 14 with fail
  clear z2 hlt hm
  generalize wr = v4 at RX RA RB RP RQ RD SD TD HB ⊢
  by_cases hP : px = yd ∧ py = yq
  · have h1 : (px == yd) = true := by simpa using hP.1
    have h2 : (py == yq) = true := by simpa using hP.2
    clear hP
    obtain ⟨RA0, RA1, RA2⟩ := stamp_at RA.out
    obtain ⟨RB0, RB1, RB2⟩ := stamp_at RB.out
    obtain ⟨RP0, RP1⟩ := dot_rowT RP.out
    try dsimp only at RP0 RP1
    obtain ⟨RQ0, RQ1⟩ := dot_rowT RQ.out
    try dsimp only at RQ0 RQ1
    go_wp2_with fail
    go_ret
    exact ⟨rfl, HB.out⟩
  by_cases hQ : qx = xd ∧ qy = xq
  · have h1 : (qx == xd) = true := by simpa using hQ.1
    have h2 : (qy == xq) = true := by simpa using hQ.2
    obtain ⟨q1, hq1⟩ : ∃ q1, (px == yd) = q1 := ⟨_, rfl⟩
    obtain ⟨q2, hq2⟩ : ∃ q2, (py == yq) = q2 := ⟨_, rfl⟩
    clear hP hQ
    obtain ⟨RA0, RA1, RA2⟩ := stamp_at RA.out
    obtain ⟨RB0, RB1, RB2⟩ := stamp_at RB.out
    obtain ⟨RP0, RP1⟩ := dot_rowT RP.out
    try dsimp only at RP0 RP1
    obtain ⟨RQ0, RQ1⟩ := dot_rowT RQ.out
    try dsimp only at RQ0 RQ1
    cases q1 <;> cases q2
    all_goals
      go_wp2_with fail
      go_ret
      exact ⟨rfl, HB.out⟩
  obtain ⟨q1, hq1⟩ : ∃ q1, (px == yd) = q1 := ⟨_, rfl⟩
  obtain ⟨q2, hq2⟩ : ∃ q2, (py == yq) = q2 := ⟨_, rfl⟩
  obtain ⟨q3, hq3⟩ : ∃ q3, (qx == xd) = q3 := ⟨_, rfl⟩
  obtain ⟨q4, hq4⟩ : ∃ q4, (qy == xq) = q4 := ⟨_, rfl⟩
  have hp4 : ¬ (q1 = true ∧ q2 = true) := by rw [← hq1, ← hq2]; simpa using hP
  have hp5 : ¬ (q3 = true ∧ q4 = true) := by rw [← hq3, ← hq4]; simpa using hQ
  have HP := Lib.hid hP; have HQ := Lib.hid hQ
  clear hP hQ
  go_cut [22] from 85 to 110 (fun z wz => z = .bool false ∧ wz = v4)
  case first =>
    obtain ⟨RA0, RA1, RA2⟩ := stamp_at RA.out
    obtain ⟨RB0, RB1, RB2⟩ := stamp_at RB.out
    obtain ⟨RP0, RP1⟩ := dot_rowT RP.out
    try dsimp only at RP0 RP1
    obtain ⟨RQ0, RQ1⟩ := dot_rowT RQ.out
    try dsimp only at RQ0 RQ1
    cases q1 <;> cases q2 <;> cases q3 <;> cases q4
    all_goals first | exact absurd ⟨rfl, rfl⟩ hp4 | exact absurd ⟨rfl, rfl⟩ hp5 | skip
    all_goals
      clear hp4 hp5
      go_wp2_with fail
      go_meet
      exact ⟨rfl, rfl⟩
  case rest =>
  obtain ⟨rfl, hb⟩ := hcut
  subst wc
  clear hq1 hq2 hq3 hq4 hp4 hp5
  obtain ⟨hzs, zss⟩ := few_strs HSN.out HS4.out HSS.out
  obtain ⟨hzt, ztt⟩ := few_strs HTN.out HT4.out HTT.out
  obtain ⟨L1, L2, L3, L4, L5, L6, L7, e1, e2, e3, e4, e5, e6, e7, e8, e9, eb⟩ := ways10 (a := ⟨xt, xd, xq⟩) (b := ⟨yt, yd, yq⟩) (P := ⟨⟨px, py⟩, i⟩) (Q := ⟨⟨qx, qy⟩, k⟩) (ss := ss) (tt := tt) hr.out (by simpa [dotS] using HAB.out) (by simpa [dotS] using HP.out) (by simpa [dotS] using HQ.out) (by rw [HLN.out]; exact HN.out) hzs hzt
  have ZS := Lib.hid zss; have ZT := Lib.hid ztt
  clear zss ztt hzs hzt
  have F1 : Hid (∀ W : World, RdP W A n c l → RdT W SB ns cs ss → Calls Try.prog 19 #[cellV kd u (.slice A n c), .agg #[.int .i64 xt, .int .i64 xd, .int .i64 xq], .slice SB ns cs, .agg #[.int .i64 px, .int .i64 py], .int .i64 i] W fun e w' => ∃ A' n' c', e = .returned (cellV kd u (.slice A' n' c')) ∧ RdP w' A' n' c' L1 ∧ Below W.heap.size W w') := by
    intro W h1 h2
    have := typed_any kd u A n c l ⟨xt, xd, xq⟩ SB ns cs ss ⟨px, py⟩ i W h1 (by have := h1.len; have := And.intro HLN.out HN.out; omega) h2 ZS.out
    rw [e1.out] at this
    exact this
  have F2 : Hid (∀ (A1 : Option Addr) (n1 d1 : Nat) (W : World), RdP W A1 n1 d1 L1 → Calls Try.prog 18 #[cellV kd u (.slice A1 n1 d1), .agg #[.int .i64 px, .int .i64 py], .int .i64 i] W fun e w' => ∃ A' n' c', e = .returned (cellV kd u (.slice A' n' c')) ∧ RdP w' A' n' c' L2 ∧ Below W.heap.size W w') := by
    intro A1 n1 d1 W hW
    refine (eraseT_any kd u A1 n1 d1 L1 ⟨px, py⟩ i W hW (by have := hW.len; have := eb.out; omega)).mono ?_
    rintro e w' ⟨A', c', h1, h2, h3, _⟩
    rw [e2.out] at h2
    exact ⟨A', n1, c', h1, h2, h3⟩
  have F3 : Hid (∀ (A1 : Option Addr) (n1 d1 : Nat) (W : World), RdP W A1 n1 d1 L2 → RdT W TB nt ct tt → Calls Try.prog 19 #[cellV kd u (.slice A1 n1 d1), .agg #[.int .i64 yt, .int .i64 yd, .int .i64 yq], .slice TB nt ct, .agg #[.int .i64 qx, .int .i64 qy], .int .i64 k] W fun e w' => ∃ A' n' c', e = .returned (cellV kd u (.slice A' n' c')) ∧ RdP w' A' n' c' L3 ∧ Below W.heap.size W w') := by
    intro A1 n1 d1 W h1 h2
    have := typed_any kd u A1 n1 d1 L2 ⟨yt, yd, yq⟩ TB nt ct tt ⟨qx, qy⟩ k W h1 (by have := h1.len; have := eb.out; omega) h2 ZT.out
    rw [e3.out] at this
    exact this
  have F4 : Hid (∀ (A1 : Option Addr) (n1 d1 : Nat) (W : World), RdP W A1 n1 d1 L3 → Calls Try.prog 18 #[cellV kd u (.slice A1 n1 d1), .agg #[.int .i64 qx, .int .i64 qy], .int .i64 k] W fun e w' => ∃ A' n' c', e = .returned (cellV kd u (.slice A' n' c')) ∧ RdP w' A' n' c' L4 ∧ Below W.heap.size W w') := by
    intro A1 n1 d1 W hW
    refine (eraseT_any kd u A1 n1 d1 L3 ⟨qx, qy⟩ k W hW (by have := hW.len; have := eb.out; omega)).mono ?_
    rintro e w' ⟨A', c', h1, h2, h3, _⟩
    rw [e4.out] at h2
    exact ⟨A', n1, c', h1, h2, h3⟩
  have F5 : Hid (∀ W : World, RdP W A n c l → RdT W TB nt ct tt → Calls Try.prog 19 #[cellV kd u (.slice A n c), .agg #[.int .i64 yt, .int .i64 yd, .int .i64 yq], .slice TB nt ct, .agg #[.int .i64 qx, .int .i64 qy], .int .i64 k] W fun e w' => ∃ A' n' c', e = .returned (cellV kd u (.slice A' n' c')) ∧ RdP w' A' n' c' L5 ∧ Below W.heap.size W w') := by
    intro W h1 h2
    have := typed_any kd u A n c l ⟨yt, yd, yq⟩ TB nt ct tt ⟨qx, qy⟩ k W h1 (by have := h1.len; have := And.intro HLN.out HN.out; omega) h2 ZT.out
    rw [e5.out] at this
    exact this
  have F6 : Hid (∀ (A1 : Option Addr) (n1 d1 : Nat) (W : World), RdP W A1 n1 d1 L5 → Calls Try.prog 18 #[cellV kd u (.slice A1 n1 d1), .agg #[.int .i64 qx, .int .i64 qy], .int .i64 k] W fun e w' => ∃ A' n' c', e = .returned (cellV kd u (.slice A' n' c')) ∧ RdP w' A' n' c' L6 ∧ Below W.heap.size W w') := by
    intro A1 n1 d1 W hW
    refine (eraseT_any kd u A1 n1 d1 L5 ⟨qx, qy⟩ k W hW (by have := hW.len; have := eb.out; omega)).mono ?_
    rintro e w' ⟨A', c', h1, h2, h3, _⟩
    rw [e6.out] at h2
    exact ⟨A', n1, c', h1, h2, h3⟩
  have F7 : Hid (∀ (A1 : Option Addr) (n1 d1 : Nat) (W : World), RdP W A1 n1 d1 L6 → RdT W SB ns cs ss → Calls Try.prog 19 #[cellV kd u (.slice A1 n1 d1), .agg #[.int .i64 xt, .int .i64 xd, .int .i64 xq], .slice SB ns cs, .agg #[.int .i64 px, .int .i64 py], .int .i64 i] W fun e w' => ∃ A' n' c', e = .returned (cellV kd u (.slice A' n' c')) ∧ RdP w' A' n' c' L7 ∧ Below W.heap.size W w') := by
    intro A1 n1 d1 W h1 h2
    have := typed_any kd u A1 n1 d1 L6 ⟨xt, xd, xq⟩ SB ns cs ss ⟨px, py⟩ i W h1 (by have := h1.len; have := eb.out; omega) h2 ZS.out
    rw [e7.out] at this
    exact this
  have F8 : Hid (∀ (A1 : Option Addr) (n1 d1 : Nat) (W : World), RdP W A1 n1 d1 L7 → Calls Try.prog 18 #[cellV kd u (.slice A1 n1 d1), .agg #[.int .i64 px, .int .i64 py], .int .i64 i] W fun e w' => ∃ A' n' c', e = .returned (cellV kd u (.slice A' n' c')) ∧ RdP w' A' n' c' L4 ∧ Below W.heap.size W w') := by
    intro A1 n1 d1 W hW
    refine (eraseT_any kd u A1 n1 d1 L7 ⟨px, py⟩ i W hW (by have := hW.len; have := eb.out; omega)).mono ?_
    rintro e w' ⟨A', c', h1, h2, h3, _⟩
    rw [e8.out] at h2
    exact ⟨A', n1, c', h1, h2, h3⟩
  clear e1 e2 e3 e4 e5 e6 e7 e8 HSS HTT HS4 HT4
  go_upto_region 17 with fail
  go_cut [23] from 113 to 129 (fun s wz => ∃ gd A' n' d', s = .pointer (some ⟨gd, 0, none⟩) ∧ Hid (wz.heap[gd]? = some (cellRow kd u (.slice A' n' d'))) ∧ Hid (RdP wz A' n' d' L4) ∧ Hid (Below v4.heap.size v4 wz))
  case first =>
    obtain ⟨RX0, RX1, RX2, RX3, RX4⟩ := cell_row5 RX.out
    obtain ⟨RA0, RA1, RA2⟩ := stamp_at RA.out
    obtain ⟨RB0, RB1, RB2⟩ := stamp_at RB.out
    obtain ⟨RP0, RP1⟩ := dot_rowT RP.out
    try dsimp only at RP0 RP1
    obtain ⟨RQ0, RQ1⟩ := dot_rowT RQ.out
    try dsimp only at RQ0 RQ1
    have hS0 : Below v4.heap.size v4 v4 ∧ v4.cell? ⟨g, 0, none⟩ = some (.int .i64 kd) ∧ v4.cell? ⟨g, 1, none⟩ = some (.int .i64 u.k) ∧ v4.cell? ⟨g, 2, none⟩ = some (.int .i64 u.n) ∧ v4.cell? ⟨g, 3, none⟩ = some (.string u.s) ∧ v4.cell? ⟨g, 4, none⟩ = some (.slice A n c) ∧ v4.cell? ⟨g + 1, 0, none⟩ = some (.int .i64 xt) ∧ v4.cell? ⟨g + 1, 1, none⟩ = some (.int .i64 xd) ∧ v4.cell? ⟨g + 1, 2, none⟩ = some (.int .i64 xq) ∧ v4.cell? ⟨g + 2, 0, none⟩ = some (.int .i64 yt) ∧ v4.cell? ⟨g + 2, 1, none⟩ = some (.int .i64 yd) ∧ v4.cell? ⟨g + 2, 2, none⟩ = some (.int .i64 yq) ∧ v4.cell? ⟨g + 3, 0, none⟩ = some (.int .i64 px) ∧ v4.cell? ⟨g + 3, 1, none⟩ = some (.int .i64 py) ∧ v4.cell? ⟨g + 4, 0, none⟩ = some (.int .i64 qx) ∧ v4.cell? ⟨g + 4, 1, none⟩ = some (.int .i64 qy) := ⟨Below.refl _ _, RX0, RX1, RX2, RX3, RX4, RA0, RA1, RA2, RB0, RB1, RB2, RP0, RP1, RQ0, RQ1⟩
    have K : Hid (∀ W W' : World, (Below v4.heap.size v4 W ∧ W.cell? ⟨g, 0, none⟩ = some (.int .i64 kd) ∧ W.cell? ⟨g, 1, none⟩ = some (.int .i64 u.k) ∧ W.cell? ⟨g, 2, none⟩ = some (.int .i64 u.n) ∧ W.cell? ⟨g, 3, none⟩ = some (.string u.s) ∧ W.cell? ⟨g, 4, none⟩ = some (.slice A n c) ∧ W.cell? ⟨g + 1, 0, none⟩ = some (.int .i64 xt) ∧ W.cell? ⟨g + 1, 1, none⟩ = some (.int .i64 xd) ∧ W.cell? ⟨g + 1, 2, none⟩ = some (.int .i64 xq) ∧ W.cell? ⟨g + 2, 0, none⟩ = some (.int .i64 yt) ∧ W.cell? ⟨g + 2, 1, none⟩ = some (.int .i64 yd) ∧ W.cell? ⟨g + 2, 2, none⟩ = some (.int .i64 yq) ∧ W.cell? ⟨g + 3, 0, none⟩ = some (.int .i64 px) ∧ W.cell? ⟨g + 3, 1, none⟩ = some (.int .i64 py) ∧ W.cell? ⟨g + 4, 0, none⟩ = some (.int .i64 qx) ∧ W.cell? ⟨g + 4, 1, none⟩ = some (.int .i64 qy)) → Below W.heap.size W W' → (Below v4.heap.size v4 W' ∧ W'.cell? ⟨g, 0, none⟩ = some (.int .i64 kd) ∧ W'.cell? ⟨g, 1, none⟩ = some (.int .i64 u.k) ∧ W'.cell? ⟨g, 2, none⟩ = some (.int .i64 u.n) ∧ W'.cell? ⟨g, 3, none⟩ = some (.string u.s) ∧ W'.cell? ⟨g, 4, none⟩ = some (.slice A n c) ∧ W'.cell? ⟨g + 1, 0, none⟩ = some (.int .i64 xt) ∧ W'.cell? ⟨g + 1, 1, none⟩ = some (.int .i64 xd) ∧ W'.cell? ⟨g + 1, 2, none⟩ = some (.int .i64 xq) ∧ W'.cell? ⟨g + 2, 0, none⟩ = some (.int .i64 yt) ∧ W'.cell? ⟨g + 2, 1, none⟩ = some (.int .i64 yd) ∧ W'.cell? ⟨g + 2, 2, none⟩ = some (.int .i64 yq) ∧ W'.cell? ⟨g + 3, 0, none⟩ = some (.int .i64 px) ∧ W'.cell? ⟨g + 3, 1, none⟩ = some (.int .i64 py) ∧ W'.cell? ⟨g + 4, 0, none⟩ = some (.int .i64 qx) ∧ W'.cell? ⟨g + 4, 1, none⟩ = some (.int .i64 qy))) := by
      rintro W W' ⟨kk, k0, k1, k2, k3, k4, k5, k6, k7, k8, k9, k10, k11, k12, k13, k14⟩ hb
      have hc : ∀ (p : Addr) (y : Value), W.cell? p = some y → W'.cell? p = some y := fun p y h2 => (hb.cell (World.block_lt_of_cell? _ _ h2)).trans h2
      exact ⟨below_then kk hb, hc _ _ k0, hc _ _ k1, hc _ _ k2, hc _ _ k3, hc _ _ k4, hc _ _ k5, hc _ _ k6, hc _ _ k7, hc _ _ k8, hc _ _ k9, hc _ _ k10, hc _ _ k11, hc _ _ k12, hc _ _ k13, hc _ _ k14⟩
    have KA : Hid (∀ W, Below v4.heap.size v4 W → (Below v4.heap.size v4 W ∧ W.cell? ⟨g, 0, none⟩ = some (.int .i64 kd) ∧ W.cell? ⟨g, 1, none⟩ = some (.int .i64 u.k) ∧ W.cell? ⟨g, 2, none⟩ = some (.int .i64 u.n) ∧ W.cell? ⟨g, 3, none⟩ = some (.string u.s) ∧ W.cell? ⟨g, 4, none⟩ = some (.slice A n c) ∧ W.cell? ⟨g + 1, 0, none⟩ = some (.int .i64 xt) ∧ W.cell? ⟨g + 1, 1, none⟩ = some (.int .i64 xd) ∧ W.cell? ⟨g + 1, 2, none⟩ = some (.int .i64 xq) ∧ W.cell? ⟨g + 2, 0, none⟩ = some (.int .i64 yt) ∧ W.cell? ⟨g + 2, 1, none⟩ = some (.int .i64 yd) ∧ W.cell? ⟨g + 2, 2, none⟩ = some (.int .i64 yq) ∧ W.cell? ⟨g + 3, 0, none⟩ = some (.int .i64 px) ∧ W.cell? ⟨g + 3, 1, none⟩ = some (.int .i64 py) ∧ W.cell? ⟨g + 4, 0, none⟩ = some (.int .i64 qx) ∧ W.cell? ⟨g + 4, 1, none⟩ = some (.int .i64 qy))) := fun W hb => K.out _ _ hS0 hb
    have BX := Lib.hid (Below.refl v4.heap.size v4)
    have HZG := Lib.hid (Nat.le_refl v4.heap.size)
    have m1 : True := trivial
    have m2 : True := trivial
    have m3 : True := trivial
    have m4 : True := trivial
    clear RX0 RX1 RX2 RX3 RX4 RA0 RA1 RA2 RB0 RB1 RB2 RP0 RP1 RQ0 RQ1
    go_region_held3 (fun W => Below v4.heap.size v4 W ∧ W.cell? ⟨g, 0, none⟩ = some (.int .i64 kd) ∧ W.cell? ⟨g, 1, none⟩ = some (.int .i64 u.k) ∧ W.cell? ⟨g, 2, none⟩ = some (.int .i64 u.n) ∧ W.cell? ⟨g, 3, none⟩ = some (.string u.s) ∧ W.cell? ⟨g, 4, none⟩ = some (.slice A n c) ∧ W.cell? ⟨g + 1, 0, none⟩ = some (.int .i64 xt) ∧ W.cell? ⟨g + 1, 1, none⟩ = some (.int .i64 xd) ∧ W.cell? ⟨g + 1, 2, none⟩ = some (.int .i64 xq) ∧ W.cell? ⟨g + 2, 0, none⟩ = some (.int .i64 yt) ∧ W.cell? ⟨g + 2, 1, none⟩ = some (.int .i64 yd) ∧ W.cell? ⟨g + 2, 2, none⟩ = some (.int .i64 yq) ∧ W.cell? ⟨g + 3, 0, none⟩ = some (.int .i64 px) ∧ W.cell? ⟨g + 3, 1, none⟩ = some (.int .i64 py) ∧ W.cell? ⟨g + 4, 0, none⟩ = some (.int .i64 qx) ∧ W.cell? ⟨g + 4, 1, none⟩ = some (.int .i64 qy))
      (first
        | with_reducible exact K.out _ _ hS0 ((Below.refl _ _).drew)
        | with_reducible exact KA.out _ (below_new BX.out _)
        | with_reducible exact KA.out _ (below_set5 BX.out HZG.out)
        | with_reducible exact KA.out _ BX.out
        | with_reducible exact KA.out _ (below_new (Below.refl _ _) _)
        | with_reducible exact KA.out _ (below_new (Below.refl _ _) _).drew
        | with_reducible exact KA.out _ (below_new (Below.refl _ _).drew _)
        | with_reducible assumption
        | fail "S?")
      (first
        | (go_at_call 19
           clear m1
           refine (F1.out _ (RD.out.below (by first | exact Below.refl _ _ | exact (Below.refl _ _).drew | (go_split_ands; assumption))) (SD.out.below (by first | exact Below.refl _ _ | exact (Below.refl _ _).drew | (go_split_ands; assumption)))).mono ?_
           rintro e wq1 ⟨A1, n1, d1, rfl, hri, bb⟩
           have bx : Below v4.heap.size v4 wq1 := below_then (by first | exact Below.refl _ _ | exact (Below.refl _ _).drew | (go_split_ands; assumption)) bb
           have R1 := Lib.hid hri
           clear hri
           first
           | (have hz9 := Lib.hid (row_below HZ.out bb); clear HZ; have HZ := hz9; clear hz9)
           | (refine use_row2 (g := v4.heap.size) (o := cellRow 0 ⟨0, 0, ⟨#[]⟩⟩ (.slice none 0 0)) bb ?hrow (fun rr hlt => ?_)
              case hrow =>
                repeat (first | assumption | (with_reducible refine heap_at ?_; first | done | omega | (simp only [World.size_alloc]; omega)) | with_reducible refine heap_drew ?_ | (with_reducible refine heap_past ?_ ?_; focus (first | done | omega | (simp only [World.size_alloc]; omega))))
                done
              have HZ := Lib.hid rr
              replace HZG := Lib.hid (show v4.heap.size ≤ v4.heap.size from Nat.le_refl _)
              clear rr hlt)
           | skip
           replace BX := Lib.hid bx
           clear bx bb)
        | (go_at_call 18
           clear m2
           refine (F2.out _ _ _ _ (by first | exact R1.out | exact R1.out.alloc _)).mono ?_
           rintro e wq2 ⟨A2, n2, d2, rfl, hri, bb⟩
           have bx : Below v4.heap.size v4 wq2 := below_then (by first | exact Below.refl _ _ | exact (Below.refl _ _).drew | (go_split_ands; assumption)) bb
           have R2 := Lib.hid hri
           clear hri
           first
           | (have hz9 := Lib.hid (row_below HZ.out bb); clear HZ; have HZ := hz9; clear hz9)
           | (refine use_row2 (g := wq1.heap.size) (o := cellRow 0 ⟨0, 0, ⟨#[]⟩⟩ (.slice none 0 0)) bb ?hrow (fun rr hlt => ?_)
              case hrow =>
                repeat (first | assumption | (with_reducible refine heap_at ?_; first | done | omega | (simp only [World.size_alloc]; omega)) | with_reducible refine heap_drew ?_ | (with_reducible refine heap_past ?_ ?_; focus (first | done | omega | (simp only [World.size_alloc]; omega))))
                done
              have HZ := Lib.hid rr
              replace HZG := Lib.hid (show v4.heap.size ≤ wq1.heap.size from BX.out.size)
              clear rr hlt)
           | skip
           replace BX := Lib.hid bx
           clear bx bb)
        | (go_at_call 19
           clear m3
           refine (F3.out _ _ _ _ (by first | exact R2.out | exact R2.out.alloc _) (TD.out.below (by first | exact Below.refl _ _ | exact (Below.refl _ _).drew | (go_split_ands; assumption)))).mono ?_
           rintro e wq3 ⟨A3, n3, d3, rfl, hri, bb⟩
           have bx : Below v4.heap.size v4 wq3 := below_then (by first | exact Below.refl _ _ | exact (Below.refl _ _).drew | (go_split_ands; assumption)) bb
           have R3 := Lib.hid hri
           clear hri
           first
           | (have hz9 := Lib.hid (row_below HZ.out bb); clear HZ; have HZ := hz9; clear hz9)
           | (refine use_row2 (g := wq2.heap.size) (o := cellRow 0 ⟨0, 0, ⟨#[]⟩⟩ (.slice none 0 0)) bb ?hrow (fun rr hlt => ?_)
              case hrow =>
                repeat (first | assumption | (with_reducible refine heap_at ?_; first | done | omega | (simp only [World.size_alloc]; omega)) | with_reducible refine heap_drew ?_ | (with_reducible refine heap_past ?_ ?_; focus (first | done | omega | (simp only [World.size_alloc]; omega))))
                done
              have HZ := Lib.hid rr
              replace HZG := Lib.hid (show v4.heap.size ≤ wq2.heap.size from BX.out.size)
              clear rr hlt)
           | skip
           replace BX := Lib.hid bx
           clear bx bb)
        | (go_at_call 18
           clear m4
           refine (F4.out _ _ _ _ (by first | exact R3.out | exact R3.out.alloc _)).mono ?_
           rintro e wq4 ⟨A4, n4, d4, rfl, hri, bb⟩
           have bx : Below v4.heap.size v4 wq4 := below_then (by first | exact Below.refl _ _ | exact (Below.refl _ _).drew | (go_split_ands; assumption)) bb
           have R4 := Lib.hid hri
           clear hri
           first
           | (have hz9 := Lib.hid (row_below HZ.out bb); clear HZ; have HZ := hz9; clear hz9)
           | (refine use_row2 (g := wq3.heap.size) (o := cellRow 0 ⟨0, 0, ⟨#[]⟩⟩ (.slice none 0 0)) bb ?hrow (fun rr hlt => ?_)
              case hrow =>
                repeat (first | assumption | (with_reducible refine heap_at ?_; first | done | omega | (simp only [World.size_alloc]; omega)) | with_reducible refine heap_drew ?_ | (with_reducible refine heap_past ?_ ?_; focus (first | done | omega | (simp only [World.size_alloc]; omega))))
                done
              have HZ := Lib.hid rr
              replace HZG := Lib.hid (show v4.heap.size ≤ wq3.heap.size from BX.out.size)
              clear rr hlt)
           | skip
           replace BX := Lib.hid bx
           clear bx bb
           (try (obtain ⟨q0, q1, q2, q3, q4⟩ := cell_row5 HZ.out; have f0 := frozen_row HZ.out; dsimp only at q0 q1 q2 q3 q4))))
    all_goals
      first
        | (fail_if_success (have hq9 := HZ)
           have T1 := Lib.hid (heap_alloc_new wq4 (cellRow kd u (.slice A4 n4 d4)))
           have T2 := Lib.hid (R4.out.alloc (cellRow kd u (.slice A4 n4 d4)))
           have T3 := Lib.hid (below_new BX.out (cellRow kd u (.slice A4 n4 d4)))
           refine at_world 23 23 rfl rfl (fun gd _ Z => Hid (Z.heap[gd]? = some (cellRow kd u (.slice A4 n4 d4))) ∧ Hid (RdP Z A4 n4 d4 L4) ∧ Hid (Below v4.heap.size v4 Z)) ⟨T1, T2, T3⟩ ?_
           rintro Z ⟨y1, y2, y3⟩
           go_wp2_with fail
           go_meet
           exact ⟨_, _, _, _, rfl, y1, y2, y3⟩)
        | (have T1 := Lib.hid (set5 (x := .int .i64 kd) (y := .int .i64 u.k) (z := .int .i64 u.n) (u := .string u.s) (v := .slice A4 n4 d4) HZ.out)
           have T2 := Lib.hid (rdp_set5 R4.out HZ.out (.int .i64 kd) (.int .i64 u.k) (.int .i64 u.n) (.string u.s) (.slice A4 n4 d4))
           have T3 := Lib.hid (below_set5h (x := .int .i64 kd) (y := .int .i64 u.k) (z := .int .i64 u.n) (a := .string u.s) (b := .slice A4 n4 d4) HZ.out BX.out HZG.out)
           clear q0 q1 q2 q3 q4 f0
           refine at_world 23 23 rfl rfl (fun gd _ Z => Hid (Z.heap[gd]? = some (cellRow kd u (.slice A4 n4 d4))) ∧ Hid (RdP Z A4 n4 d4 L4) ∧ Hid (Below v4.heap.size v4 Z)) ⟨T1, T2, T3⟩ ?_
           rintro Z ⟨y1, y2, y3⟩
           go_wp2_with fail
           go_meet
           exact ⟨_, _, _, _, rfl, y1, y2, y3⟩)
  case rest =>
  obtain ⟨gR5, A5, n5, d5, rfl, hR, hRd, hbb⟩ := hcut
  have R5 := hR; have RL5 := hRd; have bb := hbb.out
  clear hR hRd hbb
  replace RX := Lib.hid (row_below RX.out bb)
  replace RA := Lib.hid (row_below RA.out bb)
  replace RB := Lib.hid (row_below RB.out bb)
  replace RP := Lib.hid (row_below RP.out bb)
  replace RQ := Lib.hid (row_below RQ.out bb)
  replace RD := Lib.hid (RD.out.below bb)
  replace SD := Lib.hid (SD.out.below bb)
  replace TD := Lib.hid (TD.out.below bb)
  replace HB := Lib.hid (below_then HB.out bb)
  clear bb
  generalize wc = v5 at RX RA RB RP RQ RD SD TD R5 RL5 HB ⊢
  clear F1 F2 F3 F4
  go_upto_region 18 with fail
  go_cut [24] from 130 to 146 (fun s wz => ∃ gd A' n' d', s = .pointer (some ⟨gd, 0, none⟩) ∧ Hid (wz.heap[gd]? = some (cellRow kd u (.slice A' n' d'))) ∧ Hid (RdP wz A' n' d' L4) ∧ Hid (Below v5.heap.size v5 wz))
  case first =>
    obtain ⟨RX0, RX1, RX2, RX3, RX4⟩ := cell_row5 RX.out
    obtain ⟨RA0, RA1, RA2⟩ := stamp_at RA.out
    obtain ⟨RB0, RB1, RB2⟩ := stamp_at RB.out
    obtain ⟨RP0, RP1⟩ := dot_rowT RP.out
    try dsimp only at RP0 RP1
    obtain ⟨RQ0, RQ1⟩ := dot_rowT RQ.out
    try dsimp only at RQ0 RQ1
    have hS0 : Below v5.heap.size v5 v5 ∧ v5.cell? ⟨g, 0, none⟩ = some (.int .i64 kd) ∧ v5.cell? ⟨g, 1, none⟩ = some (.int .i64 u.k) ∧ v5.cell? ⟨g, 2, none⟩ = some (.int .i64 u.n) ∧ v5.cell? ⟨g, 3, none⟩ = some (.string u.s) ∧ v5.cell? ⟨g, 4, none⟩ = some (.slice A n c) ∧ v5.cell? ⟨g + 1, 0, none⟩ = some (.int .i64 xt) ∧ v5.cell? ⟨g + 1, 1, none⟩ = some (.int .i64 xd) ∧ v5.cell? ⟨g + 1, 2, none⟩ = some (.int .i64 xq) ∧ v5.cell? ⟨g + 2, 0, none⟩ = some (.int .i64 yt) ∧ v5.cell? ⟨g + 2, 1, none⟩ = some (.int .i64 yd) ∧ v5.cell? ⟨g + 2, 2, none⟩ = some (.int .i64 yq) ∧ v5.cell? ⟨g + 3, 0, none⟩ = some (.int .i64 px) ∧ v5.cell? ⟨g + 3, 1, none⟩ = some (.int .i64 py) ∧ v5.cell? ⟨g + 4, 0, none⟩ = some (.int .i64 qx) ∧ v5.cell? ⟨g + 4, 1, none⟩ = some (.int .i64 qy) := ⟨Below.refl _ _, RX0, RX1, RX2, RX3, RX4, RA0, RA1, RA2, RB0, RB1, RB2, RP0, RP1, RQ0, RQ1⟩
    have K : Hid (∀ W W' : World, (Below v5.heap.size v5 W ∧ W.cell? ⟨g, 0, none⟩ = some (.int .i64 kd) ∧ W.cell? ⟨g, 1, none⟩ = some (.int .i64 u.k) ∧ W.cell? ⟨g, 2, none⟩ = some (.int .i64 u.n) ∧ W.cell? ⟨g, 3, none⟩ = some (.string u.s) ∧ W.cell? ⟨g, 4, none⟩ = some (.slice A n c) ∧ W.cell? ⟨g + 1, 0, none⟩ = some (.int .i64 xt) ∧ W.cell? ⟨g + 1, 1, none⟩ = some (.int .i64 xd) ∧ W.cell? ⟨g + 1, 2, none⟩ = some (.int .i64 xq) ∧ W.cell? ⟨g + 2, 0, none⟩ = some (.int .i64 yt) ∧ W.cell? ⟨g + 2, 1, none⟩ = some (.int .i64 yd) ∧ W.cell? ⟨g + 2, 2, none⟩ = some (.int .i64 yq) ∧ W.cell? ⟨g + 3, 0, none⟩ = some (.int .i64 px) ∧ W.cell? ⟨g + 3, 1, none⟩ = some (.int .i64 py) ∧ W.cell? ⟨g + 4, 0, none⟩ = some (.int .i64 qx) ∧ W.cell? ⟨g + 4, 1, none⟩ = some (.int .i64 qy)) → Below W.heap.size W W' → (Below v5.heap.size v5 W' ∧ W'.cell? ⟨g, 0, none⟩ = some (.int .i64 kd) ∧ W'.cell? ⟨g, 1, none⟩ = some (.int .i64 u.k) ∧ W'.cell? ⟨g, 2, none⟩ = some (.int .i64 u.n) ∧ W'.cell? ⟨g, 3, none⟩ = some (.string u.s) ∧ W'.cell? ⟨g, 4, none⟩ = some (.slice A n c) ∧ W'.cell? ⟨g + 1, 0, none⟩ = some (.int .i64 xt) ∧ W'.cell? ⟨g + 1, 1, none⟩ = some (.int .i64 xd) ∧ W'.cell? ⟨g + 1, 2, none⟩ = some (.int .i64 xq) ∧ W'.cell? ⟨g + 2, 0, none⟩ = some (.int .i64 yt) ∧ W'.cell? ⟨g + 2, 1, none⟩ = some (.int .i64 yd) ∧ W'.cell? ⟨g + 2, 2, none⟩ = some (.int .i64 yq) ∧ W'.cell? ⟨g + 3, 0, none⟩ = some (.int .i64 px) ∧ W'.cell? ⟨g + 3, 1, none⟩ = some (.int .i64 py) ∧ W'.cell? ⟨g + 4, 0, none⟩ = some (.int .i64 qx) ∧ W'.cell? ⟨g + 4, 1, none⟩ = some (.int .i64 qy))) := by
      rintro W W' ⟨kk, k0, k1, k2, k3, k4, k5, k6, k7, k8, k9, k10, k11, k12, k13, k14⟩ hb
      have hc : ∀ (p : Addr) (y : Value), W.cell? p = some y → W'.cell? p = some y := fun p y h2 => (hb.cell (World.block_lt_of_cell? _ _ h2)).trans h2
      exact ⟨below_then kk hb, hc _ _ k0, hc _ _ k1, hc _ _ k2, hc _ _ k3, hc _ _ k4, hc _ _ k5, hc _ _ k6, hc _ _ k7, hc _ _ k8, hc _ _ k9, hc _ _ k10, hc _ _ k11, hc _ _ k12, hc _ _ k13, hc _ _ k14⟩
    have KA : Hid (∀ W, Below v5.heap.size v5 W → (Below v5.heap.size v5 W ∧ W.cell? ⟨g, 0, none⟩ = some (.int .i64 kd) ∧ W.cell? ⟨g, 1, none⟩ = some (.int .i64 u.k) ∧ W.cell? ⟨g, 2, none⟩ = some (.int .i64 u.n) ∧ W.cell? ⟨g, 3, none⟩ = some (.string u.s) ∧ W.cell? ⟨g, 4, none⟩ = some (.slice A n c) ∧ W.cell? ⟨g + 1, 0, none⟩ = some (.int .i64 xt) ∧ W.cell? ⟨g + 1, 1, none⟩ = some (.int .i64 xd) ∧ W.cell? ⟨g + 1, 2, none⟩ = some (.int .i64 xq) ∧ W.cell? ⟨g + 2, 0, none⟩ = some (.int .i64 yt) ∧ W.cell? ⟨g + 2, 1, none⟩ = some (.int .i64 yd) ∧ W.cell? ⟨g + 2, 2, none⟩ = some (.int .i64 yq) ∧ W.cell? ⟨g + 3, 0, none⟩ = some (.int .i64 px) ∧ W.cell? ⟨g + 3, 1, none⟩ = some (.int .i64 py) ∧ W.cell? ⟨g + 4, 0, none⟩ = some (.int .i64 qx) ∧ W.cell? ⟨g + 4, 1, none⟩ = some (.int .i64 qy))) := fun W hb => K.out _ _ hS0 hb
    have BX := Lib.hid (Below.refl v5.heap.size v5)
    have HZG := Lib.hid (Nat.le_refl v5.heap.size)
    have m1 : True := trivial
    have m2 : True := trivial
    have m3 : True := trivial
    have m4 : True := trivial
    clear RX0 RX1 RX2 RX3 RX4 RA0 RA1 RA2 RB0 RB1 RB2 RP0 RP1 RQ0 RQ1
    go_region_held3 (fun W => Below v5.heap.size v5 W ∧ W.cell? ⟨g, 0, none⟩ = some (.int .i64 kd) ∧ W.cell? ⟨g, 1, none⟩ = some (.int .i64 u.k) ∧ W.cell? ⟨g, 2, none⟩ = some (.int .i64 u.n) ∧ W.cell? ⟨g, 3, none⟩ = some (.string u.s) ∧ W.cell? ⟨g, 4, none⟩ = some (.slice A n c) ∧ W.cell? ⟨g + 1, 0, none⟩ = some (.int .i64 xt) ∧ W.cell? ⟨g + 1, 1, none⟩ = some (.int .i64 xd) ∧ W.cell? ⟨g + 1, 2, none⟩ = some (.int .i64 xq) ∧ W.cell? ⟨g + 2, 0, none⟩ = some (.int .i64 yt) ∧ W.cell? ⟨g + 2, 1, none⟩ = some (.int .i64 yd) ∧ W.cell? ⟨g + 2, 2, none⟩ = some (.int .i64 yq) ∧ W.cell? ⟨g + 3, 0, none⟩ = some (.int .i64 px) ∧ W.cell? ⟨g + 3, 1, none⟩ = some (.int .i64 py) ∧ W.cell? ⟨g + 4, 0, none⟩ = some (.int .i64 qx) ∧ W.cell? ⟨g + 4, 1, none⟩ = some (.int .i64 qy))
      (first
        | with_reducible exact K.out _ _ hS0 ((Below.refl _ _).drew)
        | with_reducible exact KA.out _ (below_new BX.out _)
        | with_reducible exact KA.out _ (below_set5 BX.out HZG.out)
        | with_reducible exact KA.out _ BX.out
        | with_reducible exact KA.out _ (below_new (Below.refl _ _) _)
        | with_reducible exact KA.out _ (below_new (Below.refl _ _) _).drew
        | with_reducible exact KA.out _ (below_new (Below.refl _ _).drew _)
        | with_reducible assumption
        | fail "S?")
      (first
        | (go_at_call 19
           clear m1
           refine (F5.out _ (RD.out.below (by first | exact Below.refl _ _ | exact (Below.refl _ _).drew | (go_split_ands; assumption))) (TD.out.below (by first | exact Below.refl _ _ | exact (Below.refl _ _).drew | (go_split_ands; assumption)))).mono ?_
           rintro e wq1 ⟨A1, n1, d1, rfl, hri, bb⟩
           have bx : Below v5.heap.size v5 wq1 := below_then (by first | exact Below.refl _ _ | exact (Below.refl _ _).drew | (go_split_ands; assumption)) bb
           have R1 := Lib.hid hri
           clear hri
           first
           | (have hz9 := Lib.hid (row_below HZ.out bb); clear HZ; have HZ := hz9; clear hz9)
           | (refine use_row2 (g := v5.heap.size) (o := cellRow 0 ⟨0, 0, ⟨#[]⟩⟩ (.slice none 0 0)) bb ?hrow (fun rr hlt => ?_)
              case hrow =>
                repeat (first | assumption | (with_reducible refine heap_at ?_; first | done | omega | (simp only [World.size_alloc]; omega)) | with_reducible refine heap_drew ?_ | (with_reducible refine heap_past ?_ ?_; focus (first | done | omega | (simp only [World.size_alloc]; omega))))
                done
              have HZ := Lib.hid rr
              replace HZG := Lib.hid (show v5.heap.size ≤ v5.heap.size from Nat.le_refl _)
              clear rr hlt)
           | skip
           replace BX := Lib.hid bx
           clear bx bb)
        | (go_at_call 18
           clear m2
           refine (F6.out _ _ _ _ (by first | exact R1.out | exact R1.out.alloc _)).mono ?_
           rintro e wq2 ⟨A2, n2, d2, rfl, hri, bb⟩
           have bx : Below v5.heap.size v5 wq2 := below_then (by first | exact Below.refl _ _ | exact (Below.refl _ _).drew | (go_split_ands; assumption)) bb
           have R2 := Lib.hid hri
           clear hri
           first
           | (have hz9 := Lib.hid (row_below HZ.out bb); clear HZ; have HZ := hz9; clear hz9)
           | (refine use_row2 (g := wq1.heap.size) (o := cellRow 0 ⟨0, 0, ⟨#[]⟩⟩ (.slice none 0 0)) bb ?hrow (fun rr hlt => ?_)
              case hrow =>
                repeat (first | assumption | (with_reducible refine heap_at ?_; first | done | omega | (simp only [World.size_alloc]; omega)) | with_reducible refine heap_drew ?_ | (with_reducible refine heap_past ?_ ?_; focus (first | done | omega | (simp only [World.size_alloc]; omega))))
                done
              have HZ := Lib.hid rr
              replace HZG := Lib.hid (show v5.heap.size ≤ wq1.heap.size from BX.out.size)
              clear rr hlt)
           | skip
           replace BX := Lib.hid bx
           clear bx bb)
        | (go_at_call 19
           clear m3
           refine (F7.out _ _ _ _ (by first | exact R2.out | exact R2.out.alloc _) (SD.out.below (by first | exact Below.refl _ _ | exact (Below.refl _ _).drew | (go_split_ands; assumption)))).mono ?_
           rintro e wq3 ⟨A3, n3, d3, rfl, hri, bb⟩
           have bx : Below v5.heap.size v5 wq3 := below_then (by first | exact Below.refl _ _ | exact (Below.refl _ _).drew | (go_split_ands; assumption)) bb
           have R3 := Lib.hid hri
           clear hri
           first
           | (have hz9 := Lib.hid (row_below HZ.out bb); clear HZ; have HZ := hz9; clear hz9)
           | (refine use_row2 (g := wq2.heap.size) (o := cellRow 0 ⟨0, 0, ⟨#[]⟩⟩ (.slice none 0 0)) bb ?hrow (fun rr hlt => ?_)
              case hrow =>
                repeat (first | assumption | (with_reducible refine heap_at ?_; first | done | omega | (simp only [World.size_alloc]; omega)) | with_reducible refine heap_drew ?_ | (with_reducible refine heap_past ?_ ?_; focus (first | done | omega | (simp only [World.size_alloc]; omega))))
                done
              have HZ := Lib.hid rr
              replace HZG := Lib.hid (show v5.heap.size ≤ wq2.heap.size from BX.out.size)
              clear rr hlt)
           | skip
           replace BX := Lib.hid bx
           clear bx bb)
        | (go_at_call 18
           clear m4
           refine (F8.out _ _ _ _ (by first | exact R3.out | exact R3.out.alloc _)).mono ?_
           rintro e wq4 ⟨A4, n4, d4, rfl, hri, bb⟩
           have bx : Below v5.heap.size v5 wq4 := below_then (by first | exact Below.refl _ _ | exact (Below.refl _ _).drew | (go_split_ands; assumption)) bb
           have R4 := Lib.hid hri
           clear hri
           first
           | (have hz9 := Lib.hid (row_below HZ.out bb); clear HZ; have HZ := hz9; clear hz9)
           | (refine use_row2 (g := wq3.heap.size) (o := cellRow 0 ⟨0, 0, ⟨#[]⟩⟩ (.slice none 0 0)) bb ?hrow (fun rr hlt => ?_)
              case hrow =>
                repeat (first | assumption | (with_reducible refine heap_at ?_; first | done | omega | (simp only [World.size_alloc]; omega)) | with_reducible refine heap_drew ?_ | (with_reducible refine heap_past ?_ ?_; focus (first | done | omega | (simp only [World.size_alloc]; omega))))
                done
              have HZ := Lib.hid rr
              replace HZG := Lib.hid (show v5.heap.size ≤ wq3.heap.size from BX.out.size)
              clear rr hlt)
           | skip
           replace BX := Lib.hid bx
           clear bx bb
           (try (obtain ⟨q0, q1, q2, q3, q4⟩ := cell_row5 HZ.out; have f0 := frozen_row HZ.out; dsimp only at q0 q1 q2 q3 q4))))
    all_goals
      first
        | (fail_if_success (have hq9 := HZ)
           have T1 := Lib.hid (heap_alloc_new wq4 (cellRow kd u (.slice A4 n4 d4)))
           have T2 := Lib.hid (R4.out.alloc (cellRow kd u (.slice A4 n4 d4)))
           have T3 := Lib.hid (below_new BX.out (cellRow kd u (.slice A4 n4 d4)))
           refine at_world 24 24 rfl rfl (fun gd _ Z => Hid (Z.heap[gd]? = some (cellRow kd u (.slice A4 n4 d4))) ∧ Hid (RdP Z A4 n4 d4 L4) ∧ Hid (Below v5.heap.size v5 Z)) ⟨T1, T2, T3⟩ ?_
           rintro Z ⟨y1, y2, y3⟩
           go_wp2_with fail
           go_meet
           exact ⟨_, _, _, _, rfl, y1, y2, y3⟩)
        | (have T1 := Lib.hid (set5 (x := .int .i64 kd) (y := .int .i64 u.k) (z := .int .i64 u.n) (u := .string u.s) (v := .slice A4 n4 d4) HZ.out)
           have T2 := Lib.hid (rdp_set5 R4.out HZ.out (.int .i64 kd) (.int .i64 u.k) (.int .i64 u.n) (.string u.s) (.slice A4 n4 d4))
           have T3 := Lib.hid (below_set5h (x := .int .i64 kd) (y := .int .i64 u.k) (z := .int .i64 u.n) (a := .string u.s) (b := .slice A4 n4 d4) HZ.out BX.out HZG.out)
           clear q0 q1 q2 q3 q4 f0
           refine at_world 24 24 rfl rfl (fun gd _ Z => Hid (Z.heap[gd]? = some (cellRow kd u (.slice A4 n4 d4))) ∧ Hid (RdP Z A4 n4 d4 L4) ∧ Hid (Below v5.heap.size v5 Z)) ⟨T1, T2, T3⟩ ?_
           rintro Z ⟨y1, y2, y3⟩
           go_wp2_with fail
           go_meet
           exact ⟨_, _, _, _, rfl, y1, y2, y3⟩)
  case rest =>
  obtain ⟨gR6, A6, n6, d6, rfl, hR, hRd, hbb⟩ := hcut
  have R6 := hR; have RL6 := hRd; have bb := hbb.out
  clear hR hRd hbb
  replace RX := Lib.hid (row_below RX.out bb)
  replace RA := Lib.hid (row_below RA.out bb)
  replace RB := Lib.hid (row_below RB.out bb)
  replace RP := Lib.hid (row_below RP.out bb)
  replace RQ := Lib.hid (row_below RQ.out bb)
  replace R5 := Lib.hid (row_below R5.out bb)
  replace RD := Lib.hid (RD.out.below bb)
  replace SD := Lib.hid (SD.out.below bb)
  replace TD := Lib.hid (TD.out.below bb)
  replace RL5 := Lib.hid (RL5.out.below bb)
  replace HB := Lib.hid (below_then HB.out bb)
  clear bb
  generalize wc = v6 at RX RA RB RP RQ R5 RD SD TD RL5 R6 RL6 HB ⊢
  clear F5 F6 F7 F8
  obtain ⟨ev, hev⟩ : ∃ v : V3, showT kd u L4 = v := ⟨_, rfl⟩
  have SM : Hid (∀ (A1 : Option Addr) (n1 d1 : Nat) (A2 : Option Addr) (n2 d2 : Nat) (W : World), RdP W A1 n1 d1 L4 → RdP W A2 n2 d2 L4 → Calls Try.prog 15 #[cellV kd u (.slice A1 n1 d1), cellV kd u (.slice A2 n2 d2)] W fun e w' => e = .returned (.bool true) ∧ Below W.heap.size W w') := by
    intro A1 n1 d1 A2 n2 d2 W h1 h2
    have := sameC_any kd u A1 n1 d1 L4 kd u A2 n2 d2 L4 W h1 h2
    rwa [show sameC kd u L4 kd u L4 = true by simp [sameC]] at this
  have RT : Hid (∀ (A1 : Option Addr) (n1 d1 : Nat) (W : World), RdP W A1 n1 d1 L4 → Calls Try.prog 8 #[cellV kd u (.slice A1 n1 d1)] W fun e w' => e = .returned (.int .i64 0) ∧ Below W.heap.size W w') := by
    intro A1 n1 d1 W hW
    have := rightT_any kd u A1 n1 d1 L4 W hW (by have := hW.len; have := eb.out; omega)
    rwa [e9.out] at this
  have SH : Hid (∀ (A1 : Option Addr) (n1 d1 : Nat) (W : World), RdP W A1 n1 d1 L4 → Calls Try.prog 10 #[cellV kd u (.slice A1 n1 d1)] W fun e w' => e = .returned (.agg #[.int .i64 ev.k, .int .i64 ev.n, .string ev.s]) ∧ Below W.heap.size W w') := by
    intro A1 n1 d1 W hW
    have := showT_any kd u A1 n1 d1 L4 W hW (by have := hW.len; have := eb.out; omega)
    rwa [hev] at this
  have EV : ∀ W, (Op.equalIn 10000 23 (.agg #[.int .i64 ev.k, .int .i64 ev.n, .string ev.s]) (.agg #[.int .i64 ev.k, .int .i64 ev.n, .string ev.s])).run Try.prog W = .ok true W := fun W => by
    have := run_equalIn_valF 9998 ev ev W
    rwa [show decide (ev = ev) = true by simp] at this
  clear hev
  obtain ⟨R50, R51, R52, R53, R54⟩ := cell_row5 R5.out
  obtain ⟨R60, R61, R62, R63, R64⟩ := cell_row5 R6.out
  have KA : Hid (∀ W, Below v6.heap.size v6 W → (Below v6.heap.size v6 W ∧ W.cell? ⟨gR5, 0, none⟩ = some (.int .i64 kd) ∧ W.cell? ⟨gR5, 1, none⟩ = some (.int .i64 u.k) ∧ W.cell? ⟨gR5, 2, none⟩ = some (.int .i64 u.n) ∧ W.cell? ⟨gR5, 3, none⟩ = some (.string u.s) ∧ W.cell? ⟨gR5, 4, none⟩ = some (.slice A5 n5 d5) ∧ W.cell? ⟨gR6, 0, none⟩ = some (.int .i64 kd) ∧ W.cell? ⟨gR6, 1, none⟩ = some (.int .i64 u.k) ∧ W.cell? ⟨gR6, 2, none⟩ = some (.int .i64 u.n) ∧ W.cell? ⟨gR6, 3, none⟩ = some (.string u.s) ∧ W.cell? ⟨gR6, 4, none⟩ = some (.slice A6 n6 d6))) := by
    intro W hb
    have hc : ∀ (p : Addr) (y : Value), v6.cell? p = some y → W.cell? p = some y := fun p y h2 => (hb.cell (World.block_lt_of_cell? _ _ h2)).trans h2
    exact ⟨hb, hc _ _ R50, hc _ _ R51, hc _ _ R52, hc _ _ R53, hc _ _ R54, hc _ _ R60, hc _ _ R61, hc _ _ R62, hc _ _ R63, hc _ _ R64⟩
  clear R50 R51 R52 R53 R54 R60 R61 R62 R63 R64
  go_upto_region 19 with fail
  refine wp_region_noPanic ?_
  refine wp_region_held_drew (S := (fun W => Below v6.heap.size v6 W ∧ W.cell? ⟨gR5, 0, none⟩ = some (.int .i64 kd) ∧ W.cell? ⟨gR5, 1, none⟩ = some (.int .i64 u.k) ∧ W.cell? ⟨gR5, 2, none⟩ = some (.int .i64 u.n) ∧ W.cell? ⟨gR5, 3, none⟩ = some (.string u.s) ∧ W.cell? ⟨gR5, 4, none⟩ = some (.slice A5 n5 d5) ∧ W.cell? ⟨gR6, 0, none⟩ = some (.int .i64 kd) ∧ W.cell? ⟨gR6, 1, none⟩ = some (.int .i64 u.k) ∧ W.cell? ⟨gR6, 2, none⟩ = some (.int .i64 u.n) ∧ W.cell? ⟨gR6, 3, none⟩ = some (.string u.s) ∧ W.cell? ⟨gR6, 4, none⟩ = some (.slice A6 n6 d6))) (by kernel_rfl) ?_ (fun hHeld => ?_)
  · exact KA.out _ ((Below.refl _ _).drew)
  refine wpAnyH_one (by kernel_rfl) (fun _ _ _ _ _ h => h) (by assumption) 0 18 (some 147) ?_ _ (by rfl) (by rfl) (by kernel_rfl) (by rfl) ?_ ?_
  rotate_left 1
  · intro W hSw
    (try dsimp only at hSw)
    go_simp
    (try with_reducible rfl)
  (try simp only [Act.put, List.setIfInBounds_toArray, List.set_cons_zero, List.set_cons_succ])
  refine wpAnyH_one (by kernel_rfl) (fun _ _ _ _ _ h => h) (by assumption) 1 17 (some 148) ?_ _ (by rfl) (by rfl) (by kernel_rfl) (by rfl) ?_ ?_
  rotate_left 1
  · intro W hSw
    (try dsimp only at hSw)
    go_simp
    (try with_reducible rfl)
  (try simp only [Act.put, List.setIfInBounds_toArray, List.set_cons_zero, List.set_cons_succ])
  refine wpAnyH_one (by kernel_rfl) (fun _ _ _ _ _ h => h) (by assumption) 2 16 (some 149) ?_ _ (by rfl) (by rfl) (by kernel_rfl) (by rfl) ?_ ?_
  rotate_left 1
  · intro W hSw
    (try dsimp only at hSw)
    go_simp
    (try with_reducible rfl)
  (try simp only [Act.put, List.setIfInBounds_toArray, List.set_cons_zero, List.set_cons_succ])
  refine wpAnyH_one (by kernel_rfl) (fun _ _ _ _ _ h => h) (by assumption) 3 15 (some 150) ?_ _ (by rfl) (by rfl) (by kernel_rfl) (by rfl) ?_ ?_
  rotate_left 1
  · intro W hSw
    (try dsimp only at hSw)
    go_simp
    (try with_reducible rfl)
  (try simp only [Act.put, List.setIfInBounds_toArray, List.set_cons_zero, List.set_cons_succ])
  refine wpAnyH_ready (rs := [4]) (by kernel_rfl) (by simp) (AllReadyH.cons rfl (fun K hK => ?_) AllReadyH.nil)
  go_simp
  refine (SM.out _ _ _ _ _ _ _ (RL5.out.below hHeld.1) (RL6.out.below hHeld.1)).mono ?_
  rintro e wx ⟨rfl, bb⟩
  (try go_wp2_with fail)
  refine hK.out _ _ ?_ (fun hHeld => ?_)
  · (try dsimp only)
    exact KA.out _ (below_then hHeld.1 bb)
  clear hK K
  (try simp only [Act.put, List.setIfInBounds_toArray, List.set_cons_zero, List.set_cons_succ])
  refine wpAnyH_one (by kernel_rfl) (fun _ _ _ _ _ h => h) (by assumption) 5 13 (some 152) ?_ _ (by rfl) (by rfl) (by kernel_rfl) (by rfl) ?_ ?_
  rotate_left 1
  · intro W hSw
    (try dsimp only at hSw)
    go_simp
    (try with_reducible rfl)
  (try simp only [Act.put, List.setIfInBounds_toArray, List.set_cons_zero, List.set_cons_succ])
  refine wpAnyH_one (by kernel_rfl) (fun _ _ _ _ _ h => h) (by assumption) 6 12 (some 153) ?_ _ (by rfl) (by rfl) (by kernel_rfl) (by rfl) ?_ ?_
  rotate_left 1
  · intro W hSw
    (try dsimp only at hSw)
    go_simp
    (try with_reducible rfl)
  (try simp only [Act.put, List.setIfInBounds_toArray, List.set_cons_zero, List.set_cons_succ])
  refine wpAnyH_one (by kernel_rfl) (fun _ _ _ _ _ h => h) (by assumption) 7 11 (some 154) ?_ _ (by rfl) (by rfl) (by kernel_rfl) (by rfl) ?_ ?_
  rotate_left 1
  · intro W hSw
    (try dsimp only at hSw)
    go_simp
    (try with_reducible rfl)
  (try simp only [Act.put, List.setIfInBounds_toArray, List.set_cons_zero, List.set_cons_succ])
  refine wpAnyH_ready (rs := [8]) (by kernel_rfl) (by simp) (AllReadyH.cons rfl (fun K hK => ?_) AllReadyH.nil)
  go_simp
  refine (RT.out _ _ _ _ (RL5.out.below hHeld.1)).mono ?_
  rintro e wx ⟨rfl, bb⟩
  (try go_wp2_with fail)
  refine hK.out _ _ ?_ (fun hHeld => ?_)
  · (try dsimp only)
    exact KA.out _ (below_then hHeld.1 bb)
  clear hK K
  (try simp only [Act.put, List.setIfInBounds_toArray, List.set_cons_zero, List.set_cons_succ])
  refine wpAnyH_one (by kernel_rfl) (fun _ _ _ _ _ h => h) (by assumption) 9 9 (some 156) ?_ _ (by rfl) (by rfl) (by kernel_rfl) (by rfl) ?_ ?_
  rotate_left 1
  · intro W hSw
    (try dsimp only at hSw)
    go_simp
    (try with_reducible rfl)
  (try simp only [Act.put, List.setIfInBounds_toArray, List.set_cons_zero, List.set_cons_succ])
  refine wpAnyH_one (by kernel_rfl) (fun _ _ _ _ _ h => h) (by assumption) 10 8 (some 157) ?_ _ (by rfl) (by rfl) (by kernel_rfl) (by rfl) ?_ ?_
  rotate_left 1
  · intro W hSw
    (try dsimp only at hSw)
    go_simp
    (try with_reducible rfl)
  (try simp only [Act.put, List.setIfInBounds_toArray, List.set_cons_zero, List.set_cons_succ])
  refine wpAnyH_one (by kernel_rfl) (fun _ _ _ _ _ h => h) (by assumption) 11 7 (some 158) ?_ _ (by rfl) (by rfl) (by kernel_rfl) (by rfl) ?_ ?_
  rotate_left 1
  · intro W hSw
    (try dsimp only at hSw)
    go_simp
    (try with_reducible rfl)
  (try simp only [Act.put, List.setIfInBounds_toArray, List.set_cons_zero, List.set_cons_succ])
  refine wpAnyH_one (by kernel_rfl) (fun _ _ _ _ _ h => h) (by assumption) 12 6 (some 159) ?_ _ (by rfl) (by rfl) (by kernel_rfl) (by rfl) ?_ ?_
  rotate_left 1
  · intro W hSw
    (try dsimp only at hSw)
    go_simp
    (try with_reducible rfl)
  (try simp only [Act.put, List.setIfInBounds_toArray, List.set_cons_zero, List.set_cons_succ])
  refine wpAnyH_one (by kernel_rfl) (fun _ _ _ _ _ h => h) (by assumption) 14 5 (some 161) ?_ _ (by rfl) (by rfl) (by kernel_rfl) (by rfl) ?_ ?_
  rotate_left 1
  · intro W hSw
    (try dsimp only at hSw)
    go_simp
    (try with_reducible rfl)
  (try simp only [Act.put, List.setIfInBounds_toArray, List.set_cons_zero, List.set_cons_succ])
  refine wpAnyH_ready (rs := [13]) (by kernel_rfl) (by simp) (AllReadyH.cons rfl (fun K hK => ?_) AllReadyH.nil)
  go_simp
  refine (SH.out _ _ _ _ (RL5.out.below hHeld.1)).mono ?_
  rintro e wx ⟨rfl, bb⟩
  (try go_wp2_with fail)
  refine hK.out _ _ ?_ (fun hHeld => ?_)
  · (try dsimp only)
    exact KA.out _ (below_then hHeld.1 bb)
  clear hK K
  (try simp only [Act.put, List.setIfInBounds_toArray, List.set_cons_zero, List.set_cons_succ])
  refine wpAnyH_ready (rs := [15]) (by kernel_rfl) (by simp) (AllReadyH.cons rfl (fun K hK => ?_) AllReadyH.nil)
  go_simp
  refine (SH.out _ _ _ _ (RL6.out.below hHeld.1)).mono ?_
  rintro e wx ⟨rfl, bb⟩
  (try go_wp2_with fail)
  refine hK.out _ _ ?_ (fun hHeld => ?_)
  · (try dsimp only)
    exact KA.out _ (below_then hHeld.1 bb)
  clear hK K
  (try simp only [Act.put, List.setIfInBounds_toArray, List.set_cons_zero, List.set_cons_succ])
  refine wpAnyH_one (by kernel_rfl) (fun _ _ _ _ _ h => h) (by assumption) 16 2 (some 163) ?_ _ (by rfl) (by rfl) (by kernel_rfl) (by rfl) ?_ ?_
  rotate_left 1
  · intro W hSw
    (try dsimp only at hSw)
    go_simp
    (try with_reducible rfl)
  (try simp only [Act.put, List.setIfInBounds_toArray, List.set_cons_zero, List.set_cons_succ])
  refine wpAnyH_one (by kernel_rfl) (fun _ _ _ _ _ h => h) (by assumption) 17 1 (some 164) ?_ _ (by rfl) (by rfl) (by kernel_rfl) (by rfl) ?_ ?_
  rotate_left 1
  · intro W hSw
    (try dsimp only at hSw)
    go_simp
    (try with_reducible rfl)
  (try simp only [Act.put, List.setIfInBounds_toArray, List.set_cons_zero, List.set_cons_succ])
  refine wpAnyH_one (by kernel_rfl) (fun _ _ _ _ _ h => h) (by assumption) 18 0 (some 18) ?_ _ (by rfl) (by rfl) (by kernel_rfl) (by rfl) ?_ ?_
  rotate_left 1
  · intro W hSw
    (try dsimp only at hSw)
    go_simp
    (try with_reducible rfl)
  (try simp only [Act.put, List.setIfInBounds_toArray, List.set_cons_zero, List.set_cons_succ])
  refine wpAnyH_done (by kernel_rfl) ?_ _
  refine NoPanic.normal ?_
  (try simp only [Act.put, List.setIfInBounds_toArray, List.set_cons_zero, List.set_cons_succ])
  have HZ := Lib.hid (below_then HB.out hHeld.1)
  go_wp2_with fail
  go_ret
  exact ⟨rfl, HZ.out⟩

set_option maxRecDepth 100000 in
theorem contract (H : Type) (enc : TypeId × Value → H) (W : World) (base : Nat) (args : Array Value) (ds gs : List (DataW H)) (before : List MemPlace)
    (hval : ∀ (j : Nat) t v, Try.f4.params[j]? = some t → args[j]? = some v → Value.okWide Try.prog W .any base t v)
    (hW : DataW.Whole enc Try.prog Try.f4.params.toList Rows.textMeetsSpec.vars false W args.toList ds gs before) :
    Calls Try.prog 4 args W fun e W' => ∃ v, e = .returned v ∧ Rows.textMeetsSpec.post enc Try.prog Try.f4 false true false false W args v W' := by
  have hlt : ∀ x ∈ before, x.block < W.heap.size := fun x hx => by simpa using hW.lt x hx
  refine law_step 4 Try.laid_ (by kernel_rfl) rfl Try.underlying4 rfl hW (fun xs hx => ?_) ?_
  · match xs, hx with
    | [d0, d1, d2, d3, d4, d5, d6, d7, d8], _ => rfl
  · obtain ⟨p, q, hA0, hV, rfl, _, _⟩ := hW
    have hA : DataW.TrodAll enc Try.prog W 0 (fun _ => true) true Try.f4.params.toList args.toList ds p := hA0
    rw [Try.params4] at hA hval
    obtain ⟨v0, vs0, d0, ds0, p0, q0, e0, rfl, rfl, h0, r0⟩ := trodAll_cons hA
    obtain ⟨v1, vs1, d1, ds1, p1, q1, e1, rfl, rfl, h1, r1⟩ := trodAll_cons r0
    obtain ⟨v2, vs2, d2, ds2, p2, q2, e2, rfl, rfl, h2, r2⟩ := trodAll_cons r1
    obtain ⟨v3, vs3, d3, ds3, p3, q3, e3, rfl, rfl, h3, r3⟩ := trodAll_cons r2
    obtain ⟨v4, vs4, d4, ds4, p4, q4, e4, rfl, rfl, h4, r4⟩ := trodAll_cons r3
    obtain ⟨v5, vs5, d5, ds5, p5, q5, e5, rfl, rfl, h5, r5⟩ := trodAll_cons r4
    obtain ⟨v6, vs6, d6, ds6, p6, q6, e6, rfl, rfl, h6, r6⟩ := trodAll_cons r5
    obtain ⟨v7, vs7, d7, ds7, p7, q7, e7, rfl, rfl, h7, r7⟩ := trodAll_cons r6
    obtain ⟨v8, vs8, d8, ds8, p8, q8, e8, rfl, rfl, h8, r8⟩ := trodAll_cons r7
    obtain ⟨rfl, rfl, rfl⟩ := trodAll_nil r8
    subst e8
    subst e7
    subst e6
    subst e5
    subst e4
    subst e3
    subst e2
    subst e1
    obtain rfl : args = #[v0, v1, v2, v3, v4, v5, v6, v7, v8] := by cases args; simp_all
    clear e0 hA0
    obtain ⟨k0, u0, A0, n0, c0, l, rfl, rd0, wk0, wu0, wl0⟩ := open_cell (hval 0 26 v0 rfl rfl) h0
    obtain ⟨x1, rfl, wf1⟩ := open_stamp (hval 1 37 v1 rfl rfl) h1
    obtain ⟨x2, rfl, wf2⟩ := open_stamp (hval 2 37 v2 rfl rfl) h2
    obtain ⟨A3, n3, c3, ss, rfl, rd3, wf3⟩ := open_strs (hval 3 38 v3 rfl rfl) h3
    obtain ⟨A4, n4, c4, tt, rfl, rd4, wf4⟩ := open_strs (hval 4 38 v4 rfl rfl) h4
    obtain ⟨x5, y5, rfl, wx5, wy5⟩ := open_dot (hval 5 40 v5 rfl rfl) h5
    obtain ⟨i, rfl, rfl, rfl, w6⟩ := open_int Try.underlying3 (hval 6 3 v6 rfl rfl) h6
    obtain ⟨lo6, hi6⟩ := wf_i64 w6
    obtain ⟨x7, y7, rfl, wx7, wy7⟩ := open_dot (hval 7 40 v7 rfl rfl) h7
    obtain ⟨k, rfl, rfl, rfl, w8⟩ := open_int Try.underlying3 (hval 8 3 v8 rfl rfl) h8
    obtain ⟨lo8, hi8⟩ := wf_i64 w8
    exact walk k0 u0 A0 n0 c0 l x1.t x1.d x1.q x2.t x2.d x2.q A3 n3 c3 ss A4 n4 c4 tt x5 y5 i x7 y7 k W rd0 rd3 rd4

set_option maxRecDepth 100000 in
theorem lifted (os : Os) (started : os.Started) (H : Type) (enc : TypeId × Value → H) :
    ReturnsInHanded {} Try.checked os 4 .any (Rows.textMeetsSpec.pre6 enc Try.prog Try.f4 Rows.textMeetsRow.domain false) (Rows.textMeetsSpec.post enc Try.prog Try.f4 false true false false) := by
  refine returnsInHanded_of_change (C := Try.checked) Try.own_ started (by kernel_rfl) Try.func4
    (ChangeSpec.witness6 (enc := enc) (C := Try.checked) false ⟨#[], #[.agg #[.int .i64 0, .int .i64 0, .int .i64 0, .string ⟨#[]⟩, .slice none 0 0], .agg #[.int .i64 0, .int .i64 0, .int .i64 0], .agg #[.int .i64 0, .int .i64 0, .int .i64 0], .slice none 0 0, .slice none 0 0, .agg #[.int .i64 0, .int .i64 0], .int .i64 0, .agg #[.int .i64 0, .int .i64 0], .int .i64 0], []⟩ 8 (by kernel_rfl) (by kernel_rfl) (by kernel_rfl) (by kernel_rfl)) ?_
  intro W base args ds gs before hval hW _ _
  exact contract H enc W base args ds gs before hval hW

theorem holds : Rows.TextMeetsSaid :=
  OpenClaim.holds_of_wide 4 Try.f4 rfl rfl rfl rfl rfl rfl rfl ⟨rfl, rfl, rfl, rfl, rfl⟩ rfl rfl rfl rfl rfl (by kernel_rfl) Try.func4 (by kernel_rfl)
    (of_decide_eq_true (by kernel_rfl)) (by unfold Func.isWrapper; first | (rw [if_pos (by decide +kernel)]; kernel_rfl) | (rw [if_neg (by decide +kernel)]; exact ⟨rfl, rfl⟩))
    (fun os started H enc _ => lifted os started H enc)
end Go.Proofs.Ytlgpijdemfccaaa.textMeets

