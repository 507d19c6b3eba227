/- Any cell behind any write is what the document says. Of all cells, parts, vectors. -/
import Derived.Test.YtieaobeidlhefaaRows
import Derived.Test.YtieaobeidlhefaaLaw
import Derived.Test.YtieaobeidlhefaaMulAlive
import Derived.Test.YtieaobeidlhefaaMbOpen
namespace Go.Proofs.Ytieaobeidlhefaa.multiWrites
open Go.ChangeShapes Go.WideShapes Go.ChangeAt Go.RowKit Go.ChangeMaps

set_option maxRecDepth 100000 in
set_option maxHeartbeats 12800000 in
theorem walk (k : Int) (u : V3) (A : Option Addr) (n c : Nat) (l : List P11) (p : P11) (B : Option Addr) (m d : Nat) (kn : List Int) (w : World) (h : RdP w A n c l) (hk : Rd w B m d (vals .i64 kn)) :
    Calls Try.prog 4 #[cellV k u (.slice A n c), p.agg, .slice B m d] w fun e w' => e = .returned (.bool true) ∧ Below w.heap.size w w' := by
  have HB := Lib.hid (Below.refl w.heap.size w)
  have RD := Lib.hid h
  have RK := Lib.hid hk
  clear h hk
  by_cases hn : n ≤ 60
  · by_cases hm : m ≤ 100
    · have FW : Hid (∀ W : World, Calls Try.prog 15 #[cellV k u (.slice A n c)] W fun e w' => e = .returned (.bool true) ∧ Below W.heap.size W w') := by
        intro W
        have := refFew_any k u A n c W
        rwa [decide_eq_true (by omega)] at this
      have hm1 : ¬ (100 : Int) < (m : Int) := by omega
      have hn1 : n ≤ 4294967000 := by omega
      clear hn hm
      obtain ⟨L, hL⟩ : ∃ L, writeL l p.v p.d kn = L := ⟨_, rfl⟩
      obtain ⟨N, hN⟩ : ∃ N, L.length = N := ⟨_, rfl⟩
      obtain ⟨g, hg⟩ : ∃ g, g = w.heap.size := ⟨_, rfl⟩
      obtain ⟨w0, hw0⟩ : ∃ w1, w1 = ((w.alloc (cellRow k u (.slice A n c))).alloc (partCells p)) := ⟨_, rfl⟩
      have HW0 := Lib.hid hw0; have HG := Lib.hid hg
      have hat : ∀ (w : World) (o : Obj) (g : Nat), w.heap.size = g → (w.alloc o).heap[g]? = some o := fun w o g h => by subst h; exact heap_alloc_new _ _
      have bb : Below w.heap.size w w0 := by rw [hw0]; exact below_new (below_new (Below.refl _ _) _) _
      have RX : Hid (w0.heap[g]? = some (cellRow k u (.slice A n c))) := by
        show _ = _
        rw [hw0, hg]
        rw [Below.heap_alloc _ _ _ (by simp only [World.size_alloc]; omega)]
        exact hat _ _ _ rfl
      have RP : Hid (w0.heap[g + 1]? = some (partCells p)) := by
        show _ = _
        rw [hw0, hg]
        skip
        exact hat _ _ _ (by simp only [World.size_alloc])
      replace RD := Lib.hid (RD.out.below bb)
      replace RK := Lib.hid (RK.out.below bb)
      replace HB := Lib.hid (below_then HB.out bb)
      clear bb hg hw0 hat
      go_enter Try.func4, Try.ntmps4
      go_upto_region 1 with fail
      rw [← HG.out]
      rw [show ((w.alloc (Obj.cells #[Value.int .i64 k, .int .i64 u.k, .int .i64 u.n, .string u.s, .slice A n c] 26)).alloc (Obj.cells #[Value.int .i64 p.v.k, .int .i64 p.v.n, .string p.v.s, .int .i64 p.d.d, .int .i64 p.d.s, .int .i64 p.i, .int .i64 p.t, .int .i64 p.a.d, .int .i64 p.a.s, .int .i64 p.j, .bool p.g] 32)) = w0 from HW0.out.symm]
      clear HW0
      obtain ⟨RX0, RX1, RX2, RX3, RX4⟩ := cell_row5 RX.out
      go_wp2_with fail
      refine (FW.out _).mono ?_
      rintro e v1 ⟨rfl, bb⟩
      replace RX := Lib.hid (row_below RX.out bb)
      replace RP := Lib.hid (row_below RP.out bb)
      replace RD := Lib.hid (RD.out.below bb)
      replace RK := Lib.hid (RK.out.below bb)
      replace HB := Lib.hid (below_then HB.out bb)
      clear bb
      clear RX0 RX1 RX2 RX3 RX4
      have W1 : Hid (∀ W : World, Below v1.heap.size v1 W → Calls Try.prog 20 #[cellV k u (.slice A n c), .agg #[.int .i64 p.v.k, .int .i64 p.v.n, .string p.v.s], .agg #[.int .i64 p.d.d, .int .i64 p.d.s], .slice B m d] W fun e w' => ∃ A' c', e = .returned (cellV k u (.slice A' N c')) ∧ RdP w' A' N c' L ∧ Below W.heap.size W w') := by
        intro W hW
        have := write_any k u A n c l p.v p.d B m d kn W (RD.out.below hW) (by omega) (RK.out.below hW)
        rw [hL, hN] at this
        exact this
      have W2 : Hid (∀ W : World, Below v1.heap.size v1 W → Calls Try.prog 21 #[cellV k u (.slice A n c), .agg #[.int .i64 p.v.k, .int .i64 p.v.n, .string p.v.s], .agg #[.int .i64 p.d.d, .int .i64 p.d.s], .slice B m d] W fun e w' => ∃ A' c', e = .returned (cellV k u (.slice A' N c')) ∧ RdP w' A' N c' L ∧ Below W.heap.size W w') := by
        intro W hW
        have := refWrite_any k u A n c l p.v p.d B m d kn W (RD.out.below hW) (by omega) (RK.out.below hW)
        rw [hL, hN] at this
        exact this
      clear hL hN
      obtain ⟨RX0, RX1, RX2, RX3, RX4⟩ := cell_row5 RX.out
      obtain ⟨RP0, RP1, RP2, RP3, RP4, RP5, RP6, RP7, RP8, RP9, RP10⟩ := part_row RP.out
      have hS0 : Below v1.heap.size v1 v1 ∧ v1.cell? ⟨g, 0, none⟩ = some (.int .i64 k) ∧ v1.cell? ⟨g, 1, none⟩ = some (.int .i64 u.k) ∧ v1.cell? ⟨g, 2, none⟩ = some (.int .i64 u.n) ∧ v1.cell? ⟨g, 3, none⟩ = some (.string u.s) ∧ v1.cell? ⟨g, 4, none⟩ = some (.slice A n c) ∧ v1.cell? ⟨g + 1, 0, none⟩ = some (.int .i64 p.v.k) ∧ v1.cell? ⟨g + 1, 1, none⟩ = some (.int .i64 p.v.n) ∧ v1.cell? ⟨g + 1, 2, none⟩ = some (.string p.v.s) ∧ v1.cell? ⟨g + 1, 3, none⟩ = some (.int .i64 p.d.d) ∧ v1.cell? ⟨g + 1, 4, none⟩ = some (.int .i64 p.d.s) ∧ v1.cell? ⟨g + 1, 5, none⟩ = some (.int .i64 p.i) ∧ v1.cell? ⟨g + 1, 6, none⟩ = some (.int .i64 p.t) ∧ v1.cell? ⟨g + 1, 7, none⟩ = some (.int .i64 p.a.d) ∧ v1.cell? ⟨g + 1, 8, none⟩ = some (.int .i64 p.a.s) ∧ v1.cell? ⟨g + 1, 9, none⟩ = some (.int .i64 p.j) ∧ v1.cell? ⟨g + 1, 10, none⟩ = some (.bool p.g) := ⟨Below.refl _ _, RX0, RX1, RX2, RX3, RX4, RP0, RP1, RP2, RP3, RP4, RP5, RP6, RP7, RP8, RP9, RP10⟩
      have K : Hid (∀ W W' : World, (Below v1.heap.size v1 W ∧ W.cell? ⟨g, 0, none⟩ = some (.int .i64 k) ∧ W.cell? ⟨g, 1, none⟩ = some (.int .i64 u.k) ∧ W.cell? ⟨g, 2, none⟩ = some (.int .i64 u.n) ∧ W.cell? ⟨g, 3, none⟩ = some (.string u.s) ∧ W.cell? ⟨g, 4, none⟩ = some (.slice A n c) ∧ W.cell? ⟨g + 1, 0, none⟩ = some (.int .i64 p.v.k) ∧ W.cell? ⟨g + 1, 1, none⟩ = some (.int .i64 p.v.n) ∧ W.cell? ⟨g + 1, 2, none⟩ = some (.string p.v.s) ∧ W.cell? ⟨g + 1, 3, none⟩ = some (.int .i64 p.d.d) ∧ W.cell? ⟨g + 1, 4, none⟩ = some (.int .i64 p.d.s) ∧ W.cell? ⟨g + 1, 5, none⟩ = some (.int .i64 p.i) ∧ W.cell? ⟨g + 1, 6, none⟩ = some (.int .i64 p.t) ∧ W.cell? ⟨g + 1, 7, none⟩ = some (.int .i64 p.a.d) ∧ W.cell? ⟨g + 1, 8, none⟩ = some (.int .i64 p.a.s) ∧ W.cell? ⟨g + 1, 9, none⟩ = some (.int .i64 p.j) ∧ W.cell? ⟨g + 1, 10, none⟩ = some (.bool p.g)) → Below W.heap.size W W' → (Below v1.heap.size v1 W' ∧ W'.cell? ⟨g, 0, none⟩ = some (.int .i64 k) ∧ W'.cell? ⟨g, 1, none⟩ = some (.int .i64 u.k) ∧ W'.cell? ⟨g, 2, none⟩ = some (.int .i64 u.n) ∧ W'.cell? ⟨g, 3, none⟩ = some (.string u.s) ∧ W'.cell? ⟨g, 4, none⟩ = some (.slice A n c) ∧ W'.cell? ⟨g + 1, 0, none⟩ = some (.int .i64 p.v.k) ∧ W'.cell? ⟨g + 1, 1, none⟩ = some (.int .i64 p.v.n) ∧ W'.cell? ⟨g + 1, 2, none⟩ = some (.string p.v.s) ∧ W'.cell? ⟨g + 1, 3, none⟩ = some (.int .i64 p.d.d) ∧ W'.cell? ⟨g + 1, 4, none⟩ = some (.int .i64 p.d.s) ∧ W'.cell? ⟨g + 1, 5, none⟩ = some (.int .i64 p.i) ∧ W'.cell? ⟨g + 1, 6, none⟩ = some (.int .i64 p.t) ∧ W'.cell? ⟨g + 1, 7, none⟩ = some (.int .i64 p.a.d) ∧ W'.cell? ⟨g + 1, 8, none⟩ = some (.int .i64 p.a.s) ∧ W'.cell? ⟨g + 1, 9, none⟩ = some (.int .i64 p.j) ∧ W'.cell? ⟨g + 1, 10, none⟩ = some (.bool p.g))) := by
        rintro W W' ⟨kk, k0, k1, k2, k3, k4, k5, k6, k7, k8, k9, k10, k11, k12, k13, k14, k15⟩ hb
        have hc : ∀ (p : Addr) (y : Value), W.cell? p = some y → W'.cell? p = some y := fun p y h2 => (hb.cell (World.block_lt_of_cell? _ _ h2)).trans h2
        exact ⟨below_then kk hb, hc _ _ k0, hc _ _ k1, hc _ _ k2, hc _ _ k3, hc _ _ k4, hc _ _ k5, hc _ _ k6, hc _ _ k7, hc _ _ k8, hc _ _ k9, hc _ _ k10, hc _ _ k11, hc _ _ k12, hc _ _ k13, hc _ _ k14, hc _ _ k15⟩
      go_upto_region 3 with fail
      go_region_held3 (fun W => Below v1.heap.size v1 W ∧ W.cell? ⟨g, 0, none⟩ = some (.int .i64 k) ∧ W.cell? ⟨g, 1, none⟩ = some (.int .i64 u.k) ∧ W.cell? ⟨g, 2, none⟩ = some (.int .i64 u.n) ∧ W.cell? ⟨g, 3, none⟩ = some (.string u.s) ∧ W.cell? ⟨g, 4, none⟩ = some (.slice A n c) ∧ W.cell? ⟨g + 1, 0, none⟩ = some (.int .i64 p.v.k) ∧ W.cell? ⟨g + 1, 1, none⟩ = some (.int .i64 p.v.n) ∧ W.cell? ⟨g + 1, 2, none⟩ = some (.string p.v.s) ∧ W.cell? ⟨g + 1, 3, none⟩ = some (.int .i64 p.d.d) ∧ W.cell? ⟨g + 1, 4, none⟩ = some (.int .i64 p.d.s) ∧ W.cell? ⟨g + 1, 5, none⟩ = some (.int .i64 p.i) ∧ W.cell? ⟨g + 1, 6, none⟩ = some (.int .i64 p.t) ∧ W.cell? ⟨g + 1, 7, none⟩ = some (.int .i64 p.a.d) ∧ W.cell? ⟨g + 1, 8, none⟩ = some (.int .i64 p.a.s) ∧ W.cell? ⟨g + 1, 9, none⟩ = some (.int .i64 p.j) ∧ W.cell? ⟨g + 1, 10, none⟩ = some (.bool p.g))
        (first
          | exact K.out _ _ hS0 ((Below.refl _ _).drew)
          | exact K.out _ _ (by assumption) bb
          | exact K.out _ _ (by assumption) ((Below.refl _ _).alloc (Nat.le_refl _) _)
          | exact K.out _ _ hS0 (((Below.refl _ _).alloc (Nat.le_refl _) _).drew)
          | assumption)
        (first
          | (go_at_call 16; refine (alive7_any _).mono ?_; rintro e wx ⟨rfl, bb⟩)
          | (go_at_call 20; refine (W1.out _ (by first | exact Below.refl _ _ | exact (Below.refl _ _).drew | (go_split_ands; assumption))).mono ?_; rintro e wx ⟨A1, d1, rfl, r1, bb⟩)
          | (go_at_call 21; refine (W2.out _ (by first | exact Below.refl _ _ | exact (Below.refl _ _).drew | (go_split_ands; assumption))).mono ?_; rintro e wx ⟨A2, d2, rfl, r2, bb⟩; replace r1 := r1.below bb)
          | (go_at_call 19; refine (same7_is k u A1 A2 N d1 d2 L _ r1 r2).mono ?_; rintro e wx ⟨rfl, bb⟩))
      have hSz : Below v1.heap.size v1 wx ∧ wx.cell? ⟨g, 0, none⟩ = some (.int .i64 k) ∧ wx.cell? ⟨g, 1, none⟩ = some (.int .i64 u.k) ∧ wx.cell? ⟨g, 2, none⟩ = some (.int .i64 u.n) ∧ wx.cell? ⟨g, 3, none⟩ = some (.string u.s) ∧ wx.cell? ⟨g, 4, none⟩ = some (.slice A n c) ∧ wx.cell? ⟨g + 1, 0, none⟩ = some (.int .i64 p.v.k) ∧ wx.cell? ⟨g + 1, 1, none⟩ = some (.int .i64 p.v.n) ∧ wx.cell? ⟨g + 1, 2, none⟩ = some (.string p.v.s) ∧ wx.cell? ⟨g + 1, 3, none⟩ = some (.int .i64 p.d.d) ∧ wx.cell? ⟨g + 1, 4, none⟩ = some (.int .i64 p.d.s) ∧ wx.cell? ⟨g + 1, 5, none⟩ = some (.int .i64 p.i) ∧ wx.cell? ⟨g + 1, 6, none⟩ = some (.int .i64 p.t) ∧ wx.cell? ⟨g + 1, 7, none⟩ = some (.int .i64 p.a.d) ∧ wx.cell? ⟨g + 1, 8, none⟩ = some (.int .i64 p.a.s) ∧ wx.cell? ⟨g + 1, 9, none⟩ = some (.int .i64 p.j) ∧ wx.cell? ⟨g + 1, 10, none⟩ = some (.bool p.g) := by assumption
      have HZ := below_then HB.out hSz.1
      go_wp2_with fail
      go_ret
      exact ⟨rfl, HZ⟩
    · have FW : Hid (∀ W : World, Calls Try.prog 15 #[cellV k u (.slice A n c)] W fun e w' => e = .returned (.bool true) ∧ Below W.heap.size W w') := by
        intro W
        have := refFew_any k u A n c W
        rwa [decide_eq_true (by omega)] at this
      have hm1 : (100 : Int) < (m : Int) := by omega
      clear hn hm
      obtain ⟨g, hg⟩ : ∃ g, g = w.heap.size := ⟨_, rfl⟩
      obtain ⟨w0, hw0⟩ : ∃ w1, w1 = ((w.alloc (cellRow k u (.slice A n c))).alloc (partCells p)) := ⟨_, rfl⟩
      have HW0 := Lib.hid hw0; have HG := Lib.hid hg
      have hat : ∀ (w : World) (o : Obj) (g : Nat), w.heap.size = g → (w.alloc o).heap[g]? = some o := fun w o g h => by subst h; exact heap_alloc_new _ _
      have bb : Below w.heap.size w w0 := by rw [hw0]; exact below_new (below_new (Below.refl _ _) _) _
      have RX : Hid (w0.heap[g]? = some (cellRow k u (.slice A n c))) := by
        show _ = _
        rw [hw0, hg]
        rw [Below.heap_alloc _ _ _ (by simp only [World.size_alloc]; omega)]
        exact hat _ _ _ rfl
      have RP : Hid (w0.heap[g + 1]? = some (partCells p)) := by
        show _ = _
        rw [hw0, hg]
        skip
        exact hat _ _ _ (by simp only [World.size_alloc])
      replace RD := Lib.hid (RD.out.below bb)
      replace RK := Lib.hid (RK.out.below bb)
      replace HB := Lib.hid (below_then HB.out bb)
      clear bb hg hw0 hat
      go_enter Try.func4, Try.ntmps4
      go_upto_region 1 with fail
      rw [← HG.out]
      rw [show ((w.alloc (Obj.cells #[Value.int .i64 k, .int .i64 u.k, .int .i64 u.n, .string u.s, .slice A n c] 26)).alloc (Obj.cells #[Value.int .i64 p.v.k, .int .i64 p.v.n, .string p.v.s, .int .i64 p.d.d, .int .i64 p.d.s, .int .i64 p.i, .int .i64 p.t, .int .i64 p.a.d, .int .i64 p.a.s, .int .i64 p.j, .bool p.g] 32)) = w0 from HW0.out.symm]
      clear HW0
      obtain ⟨RX0, RX1, RX2, RX3, RX4⟩ := cell_row5 RX.out
      go_wp2_with fail
      refine (FW.out _).mono ?_
      rintro e v1 ⟨rfl, bb⟩
      replace RX := Lib.hid (row_below RX.out bb)
      replace RP := Lib.hid (row_below RP.out bb)
      replace RD := Lib.hid (RD.out.below bb)
      replace RK := Lib.hid (RK.out.below bb)
      replace HB := Lib.hid (below_then HB.out bb)
      clear bb
      clear RX0 RX1 RX2 RX3 RX4
      go_wp2_with fail
      refine (alive7_any _).mono ?_
      rintro e v2 ⟨rfl, bb⟩
      replace RX := Lib.hid (row_below RX.out bb)
      replace RP := Lib.hid (row_below RP.out bb)
      replace RD := Lib.hid (RD.out.below bb)
      replace RK := Lib.hid (RK.out.below bb)
      replace HB := Lib.hid (below_then HB.out bb)
      clear bb
      go_wp2_with fail
      go_ret
      exact ⟨rfl, HB.out⟩
  · have FW : Hid (∀ W : World, Calls Try.prog 15 #[cellV k u (.slice A n c)] W fun e w' => e = .returned (.bool false) ∧ Below W.heap.size W w') := by
      intro W
      have := refFew_any k u A n c W
      rwa [decide_eq_false (by omega)] at this
    clear hn
    obtain ⟨g, hg⟩ : ∃ g, g = w.heap.size := ⟨_, rfl⟩
    obtain ⟨w0, hw0⟩ : ∃ w1, w1 = ((w.alloc (cellRow k u (.slice A n c))).alloc (partCells p)) := ⟨_, rfl⟩
    have HW0 := Lib.hid hw0; have HG := Lib.hid hg
    have hat : ∀ (w : World) (o : Obj) (g : Nat), w.heap.size = g → (w.alloc o).heap[g]? = some o := fun w o g h => by subst h; exact heap_alloc_new _ _
    have bb : Below w.heap.size w w0 := by rw [hw0]; exact below_new (below_new (Below.refl _ _) _) _
    have RX : Hid (w0.heap[g]? = some (cellRow k u (.slice A n c))) := by
      show _ = _
      rw [hw0, hg]
      rw [Below.heap_alloc _ _ _ (by simp only [World.size_alloc]; omega)]
      exact hat _ _ _ rfl
    have RP : Hid (w0.heap[g + 1]? = some (partCells p)) := by
      show _ = _
      rw [hw0, hg]
      skip
      exact hat _ _ _ (by simp only [World.size_alloc])
    replace RD := Lib.hid (RD.out.below bb)
    replace RK := Lib.hid (RK.out.below bb)
    replace HB := Lib.hid (below_then HB.out bb)
    clear bb hg hw0 hat
    go_enter Try.func4, Try.ntmps4
    go_upto_region 1 with fail
    rw [← HG.out]
    rw [show ((w.alloc (Obj.cells #[Value.int .i64 k, .int .i64 u.k, .int .i64 u.n, .string u.s, .slice A n c] 26)).alloc (Obj.cells #[Value.int .i64 p.v.k, .int .i64 p.v.n, .string p.v.s, .int .i64 p.d.d, .int .i64 p.d.s, .int .i64 p.i, .int .i64 p.t, .int .i64 p.a.d, .int .i64 p.a.s, .int .i64 p.j, .bool p.g] 32)) = w0 from HW0.out.symm]
    clear HW0
    obtain ⟨RX0, RX1, RX2, RX3, RX4⟩ := cell_row5 RX.out
    go_wp2_with fail
    refine (FW.out _).mono ?_
    rintro e v1 ⟨rfl, bb⟩
    replace RX := Lib.hid (row_below RX.out bb)
    replace RP := Lib.hid (row_below RP.out bb)
    replace RD := Lib.hid (RD.out.below bb)
    replace RK := Lib.hid (RK.out.below bb)
    replace HB := Lib.hid (below_then HB.out bb)
    clear bb
    clear RX0 RX1 RX2 RX3 RX4
    go_wp2_with fail
    refine (alive7_any _).mono ?_
    rintro e v2 ⟨rfl, bb⟩
    replace RX := Lib.hid (row_below RX.out bb)
    replace RP := Lib.hid (row_below RP.out bb)
    replace RD := Lib.hid (RD.out.below bb)
    replace RK := Lib.hid (RK.out.below bb)
    replace HB := Lib.hid (below_then HB.out bb)
    clear bb
    go_wp2_with fail
    go_ret
    exact ⟨rfl, HB.out⟩

set_option maxRecDepth 100000 in
theorem contract (H : Type) (enc : TypeId × Value → H) (W : World) (base : Nat) (args : Array Value) (ds gs : List (DataW H)) (before : List MemPlace)
    (hval : ∀ (j : Nat) t v, Try.f4.params[j]? = some t → args[j]? = some v → Value.okWide Try.prog W .any base t v)
    (hW : DataW.Whole enc Try.prog Try.f4.params.toList Rows.multiWritesSpec.vars false W args.toList ds gs before) :
    Calls Try.prog 4 args W fun e W' => ∃ v, e = .returned v ∧ Rows.multiWritesSpec.post enc Try.prog Try.f4 false true false false W args v W' := by
  have hlt : ∀ x ∈ before, x.block < W.heap.size := fun x hx => by simpa using hW.lt x hx
  refine law_step 4 Try.laid_ (by kernel_rfl) rfl Try.underlying4 rfl hW (fun xs hx => ?_) ?_
  · match xs, hx with
    | [d0, d1, d2], _ => rfl
  · obtain ⟨p, q, hA0, hV, rfl, _, _⟩ := hW
    have hA : DataW.TrodAll enc Try.prog W 0 (fun _ => true) true Try.f4.params.toList args.toList ds p := hA0
    rw [Try.params4] at hA hval
    obtain ⟨v0, vs0, d0, ds0, p0, q0, e0, rfl, rfl, h0, r0⟩ := trodAll_cons hA
    obtain ⟨v1, vs1, d1, ds1, p1, q1, e1, rfl, rfl, h1, r1⟩ := trodAll_cons r0
    obtain ⟨v2, vs2, d2, ds2, p2, q2, e2, rfl, rfl, h2, r2⟩ := trodAll_cons r1
    obtain ⟨rfl, rfl, rfl⟩ := trodAll_nil r2
    subst e2
    subst e1
    obtain rfl : args = #[v0, v1, v2] := by cases args; simp_all
    clear e0 hA0
    obtain ⟨k0, u0, A0, n0, c0, l, rfl, rd0, wk0, wu0, wl0⟩ := open_cell (hval 0 26 v0 rfl rfl) h0
    obtain ⟨p, rfl, wp1⟩ := open_part (hval 1 32 v1 rfl rfl) h1
    obtain ⟨A2, n2, c2, kn, rfl, rd2, wf2⟩ := open_vec (hval 2 34 v2 rfl rfl) h2 (fun x hx => hlt x (by simp [hx]))
    exact walk k0 u0 A0 n0 c0 l p A2 n2 c2 kn W rd0 rd2

set_option maxRecDepth 100000 in
theorem lifted (os : Os) (started : os.Started) (H : Type) (enc : TypeId × Value → H) :
    ReturnsInHanded {} Try.checked os 4 .any (Rows.multiWritesSpec.pre6 enc Try.prog Try.f4 Rows.multiWritesRow.domain false) (Rows.multiWritesSpec.post enc Try.prog Try.f4 false true false false) := by
  refine returnsInHanded_of_change (C := Try.checked) Try.own_ started (by kernel_rfl) Try.func4
    (ChangeSpec.witness6 (enc := enc) (C := Try.checked) false ⟨#[], #[.agg #[.int .i64 0, .int .i64 0, .int .i64 0, .string ⟨#[]⟩, .slice none 0 0], .agg #[.int .i64 0, .int .i64 0, .string ⟨#[]⟩, .int .i64 0, .int .i64 0, .int .i64 0, .int .i64 0, .int .i64 0, .int .i64 0, .int .i64 0, .bool false], .slice none 0 0], []⟩ 8 (by kernel_rfl) (by kernel_rfl) (by kernel_rfl) (by kernel_rfl)) ?_
  intro W base args ds gs before hval hW _ _
  exact contract H enc W base args ds gs before hval hW

theorem holds : Rows.MultiWritesSaid :=
  OpenClaim.holds_of_wide 4 Try.f4 rfl rfl rfl rfl rfl rfl rfl ⟨rfl, rfl, rfl, rfl, rfl⟩ rfl rfl rfl rfl rfl (by kernel_rfl) Try.func4 (by kernel_rfl)
    (of_decide_eq_true (by kernel_rfl)) (by unfold Func.isWrapper; first | (rw [if_pos (by decide +kernel)]; kernel_rfl) | (rw [if_neg (by decide +kernel)]; exact ⟨rfl, rfl⟩))
    (fun os started H enc _ => lifted os started H enc)
end Go.Proofs.Ytieaobeidlhefaa.multiWrites
