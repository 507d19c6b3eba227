/- A cell shows as many as it has numbers: one more behind a put of one that was not there, one fewer behind a take of one by who knew of all. Of all cells, numbers, dots. -/
import Derived.Test.YtomdbjmbkfdcmaaRows
import Derived.Test.YtomdbjmbkfdcmaaMbBase
import Derived.Test.YtomdbjmbkfdcmaaMbBagAlive
import Derived.Test.YtomdbjmbkfdcmaaMbBagFacts
import Derived.Test.YtomdbjmbkfdcmaaMbBagFew
import Derived.Test.YtomdbjmbkfdcmaaMbOpen
import Derived.Test.YtomdbjmbkfdcmaaMbVecOpen
namespace Go.Proofs.Ytomdbjmbkfdcmaa.bagCounts
open Go.ChangeShapes Go.WideShapes Go.ChangeAt Go.RowKit Go.ChangeMaps

set_option maxRecDepth 100000 in
set_option maxHeartbeats 12800000 in
theorem walk (k : Int) (u : V3) (A : Option Addr) (n c : Nat) (l : List P11) (z dx dy : Int) (w : World) (h : RdP w A n c l) :
    Calls Try.prog 9 #[cellV k u (.slice A n c), .int .i64 z, .agg #[.int .i64 dx, .int .i64 dy]] w fun e w' => e = .returned (.bool true) ∧ Below w.heap.size w w' := by
  have HB := Lib.hid (Below.refl w.heap.size w)
  have HLN := Lib.hid h.len
  have hle := h.le
  have RD := Lib.hid h
  clear h
  obtain ⟨r, hr⟩ : ∃ r, Hid (rightS k u l = r) := ⟨_, rfl⟩
  have CR : Hid (∀ W : World, RdP W A n c l → Calls Try.prog 18 #[cellV k u (.slice A n c)] W fun e w' => e = .returned (.bool r) ∧ Below W.heap.size W w') := by
    intro W hW; rw [← hr.out]; exact rightS_any k u A n c l W hW
  by_cases hn : n ≤ 60
  rotate_left
  · have FW : Hid (∀ W : World, Calls Try.prog 17 #[cellV k u (.slice A n c)] W fun e w' => e = .returned (.bool false) ∧ Below W.heap.size W w') := by
      intro W
      have := few9_any k u A n c W
      rwa [decide_eq_false (by omega)] at this
    clear hn
    obtain ⟨g, hg⟩ : ∃ g, g = w.heap.size := ⟨_, rfl⟩
    obtain ⟨w0, hw0⟩ : ∃ w1, w1 = ((w.alloc (cellRow k u (.slice A n c))).alloc (dotRow ⟨dx, dy⟩)) := ⟨_, rfl⟩
    have HW0 := Lib.hid hw0; have HG := Lib.hid hg
    have hat : ∀ (w : World) (o : Obj) (g : Nat), w.heap.size = g → (w.alloc o).heap[g]? = some o := fun w o g h => by subst h; exact heap_alloc_new _ _
    have bb : Below w.heap.size w w0 := by rw [hw0]; exact below_new (below_new (Below.refl _ _) _) _
    have RX : Hid (w0.heap[g]? = some (cellRow k u (.slice A n c))) := by
      show _ = _
      rw [hw0, hg]
      rw [Below.heap_alloc _ _ _ (by simp only [World.size_alloc]; omega)]
      exact hat _ _ _ rfl
    have RQ : Hid (w0.heap[g + 1]? = some (dotRow ⟨dx, dy⟩)) := by
      show _ = _
      rw [hw0, hg]
      skip
      exact hat _ _ _ (by simp only [World.size_alloc])
    replace RD := Lib.hid (RD.out.below bb)
    replace HB := Lib.hid (below_then HB.out bb)
    clear bb hg hw0 hat
    go_enter Try.func9, Try.ntmps9
    go_upto_region 1 with fail
    rw [← HG.out]
    rw [show ((w.alloc (Obj.cells #[Value.int .i64 k, .int .i64 u.k, .int .i64 u.n, .string u.s, .slice A n c] 26)).alloc (Obj.cells #[Value.int .i64 dx, .int .i64 dy] 28)) = w0 from HW0.out.symm]
    clear HW0
    obtain ⟨RX0, RX1, RX2, RX3, RX4⟩ := cell_row5 RX.out
    go_wp2_with fail
    refine (FW.out _).mono ?_
    rintro e v1 ⟨rfl, bb⟩
    replace RX := Lib.hid (row_below RX.out bb)
    replace RQ := Lib.hid (row_below RQ.out bb)
    replace RD := Lib.hid (RD.out.below bb)
    replace HB := Lib.hid (below_then HB.out bb)
    clear bb
    clear RX0 RX1 RX2 RX3 RX4
    go_wp2_with fail
    refine (alive9_any _).mono ?_
    rintro e v2 ⟨rfl, bb⟩
    replace RX := Lib.hid (row_below RX.out bb)
    replace RQ := Lib.hid (row_below RQ.out bb)
    replace RD := Lib.hid (RD.out.below bb)
    replace HB := Lib.hid (below_then HB.out bb)
    clear bb
    go_wp2_with fail
    go_ret
    exact ⟨rfl, HB.out⟩
  cases r with
  | false =>
    have FW : Hid (∀ W : World, Calls Try.prog 17 #[cellV k u (.slice A n c)] W fun e w' => e = .returned (.bool true) ∧ Below W.heap.size W w') := by
      intro W
      have := few9_any k u A n c W
      rwa [decide_eq_true (by omega)] at this
    clear hn
    obtain ⟨g, hg⟩ : ∃ g, g = w.heap.size := ⟨_, rfl⟩
    obtain ⟨w0, hw0⟩ : ∃ w1, w1 = ((w.alloc (cellRow k u (.slice A n c))).alloc (dotRow ⟨dx, dy⟩)) := ⟨_, rfl⟩
    have HW0 := Lib.hid hw0; have HG := Lib.hid hg
    have hat : ∀ (w : World) (o : Obj) (g : Nat), w.heap.size = g → (w.alloc o).heap[g]? = some o := fun w o g h => by subst h; exact heap_alloc_new _ _
    have bb : Below w.heap.size w w0 := by rw [hw0]; exact below_new (below_new (Below.refl _ _) _) _
    have RX : Hid (w0.heap[g]? = some (cellRow k u (.slice A n c))) := by
      show _ = _
      rw [hw0, hg]
      rw [Below.heap_alloc _ _ _ (by simp only [World.size_alloc]; omega)]
      exact hat _ _ _ rfl
    have RQ : Hid (w0.heap[g + 1]? = some (dotRow ⟨dx, dy⟩)) := by
      show _ = _
      rw [hw0, hg]
      skip
      exact hat _ _ _ (by simp only [World.size_alloc])
    replace RD := Lib.hid (RD.out.below bb)
    replace HB := Lib.hid (below_then HB.out bb)
    clear bb hg hw0 hat
    go_enter Try.func9, Try.ntmps9
    go_upto_region 1 with fail
    rw [← HG.out]
    rw [show ((w.alloc (Obj.cells #[Value.int .i64 k, .int .i64 u.k, .int .i64 u.n, .string u.s, .slice A n c] 26)).alloc (Obj.cells #[Value.int .i64 dx, .int .i64 dy] 28)) = w0 from HW0.out.symm]
    clear HW0
    obtain ⟨RX0, RX1, RX2, RX3, RX4⟩ := cell_row5 RX.out
    go_wp2_with fail
    refine (FW.out _).mono ?_
    rintro e v1 ⟨rfl, bb⟩
    replace RX := Lib.hid (row_below RX.out bb)
    replace RQ := Lib.hid (row_below RQ.out bb)
    replace RD := Lib.hid (RD.out.below bb)
    replace HB := Lib.hid (below_then HB.out bb)
    clear bb
    clear RX0 RX1 RX2 RX3 RX4
    obtain ⟨RX0, RX1, RX2, RX3, RX4⟩ := cell_row5 RX.out
    go_wp2_with fail
    refine (CR.out _ RD.out).mono ?_
    rintro e v2 ⟨rfl, bb⟩
    replace RX := Lib.hid (row_below RX.out bb)
    replace RQ := Lib.hid (row_below RQ.out bb)
    replace RD := Lib.hid (RD.out.below bb)
    replace HB := Lib.hid (below_then HB.out bb)
    clear bb
    clear RX0 RX1 RX2 RX3 RX4
    go_wp2_with fail
    refine (alive9_any _).mono ?_
    rintro e v3 ⟨rfl, bb⟩
    replace RX := Lib.hid (row_below RX.out bb)
    replace RQ := Lib.hid (row_below RQ.out bb)
    replace RD := Lib.hid (RD.out.below bb)
    replace HB := Lib.hid (below_then HB.out bb)
    clear bb
    go_wp2_with fail
    go_ret
    exact ⟨rfl, HB.out⟩
  | true =>
  obtain ⟨b, hb⟩ : ∃ b, Hid (hasB l z = b) := ⟨_, rfl⟩
  cases b with
  | true =>
    have FW : Hid (∀ W : World, Calls Try.prog 17 #[cellV k u (.slice A n c)] W fun e w' => e = .returned (.bool true) ∧ Below W.heap.size W w') := by
      intro W
      have := few9_any k u A n c W
      rwa [decide_eq_true (by omega)] at this
    have hn6 : n ≤ 60 := hn
    obtain ⟨Lx, hLx⟩ : ∃ L, Hid (putB l ⟨z, ⟨dx, dy⟩⟩ = L) := ⟨_, rfl⟩
    obtain ⟨Nx, hNNx⟩ : ∃ N, Hid (Lx.length = N) := ⟨_, rfl⟩
    have bx : Nx ≤ 61 := by
      have := putB_len l ⟨z, ⟨dx, dy⟩⟩
      rw [hLx.out, hNNx.out, HLN.out] at this; omega
    have BNS := Lib.hid (And.intro hn6 bx)
    obtain ⟨Sc, hSc⟩ : ∃ N, Hid ((numsB l).length = N) := ⟨_, rfl⟩
    obtain ⟨Sx, hSx⟩ : ∃ N, Hid ((numsB Lx).length = N) := ⟨_, rfl⟩
    have hcx : Sx = Sc + 0 := by
      have := counts_put l z ⟨dx, dy⟩
      rw [hLx.out, hb.out, hSc.out, hSx.out] at this
      simpa using this
    have hsb : Sc ≤ 60 := by have := numsB_le l; rw [hSc.out, HLN.out] at this; omega
    have HCX := Lib.hid (And.intro hcx hsb)
    clear hcx hsb bx hn6
    have H0 : Hid (∀ W : World, RdP W A n c l → Calls Try.prog 23 #[cellV k u (.slice A n c), .int .i64 z] W fun e w' => e = .returned (.bool true) ∧ Below W.heap.size W w') := by
      intro W hW
      have := hasB_any k u A n c l z W hW
      rw [hb.out] at this
      exact this
    have P1 : Hid (∀ W : World, RdP W A n c l → Calls Try.prog 22 #[cellV k u (.slice A n c), .int .i64 z, .agg #[.int .i64 dx, .int .i64 dy]] W fun e w' => ∃ A' c', e = .returned (cellV k u (.slice A' Nx c')) ∧ RdP w' A' Nx c' Lx ∧ Below W.heap.size W w') := by
      intro W hW
      have := putB_any k u A n c l z ⟨dx, dy⟩ W hW (by have := BNS.out; omega)
      rw [hLx.out, hNNx.out] at this
      exact this
    have SC : Hid (∀ W : World, RdP W A n c l → Calls Try.prog 30 #[cellV k u (.slice A n c)] W fun e w' => e = .returned (.agg #[.int .i64 1, .int .i64 (Sc : Nat), .string ⟨#[]⟩]) ∧ Below W.heap.size W w') := by
      intro W hW
      have := showB_any k u A n c l W hW (by have := BNS.out; omega)
      rw [hSc.out] at this
      exact this
    have SX : Hid (∀ (A1 : Option Addr) (d1 : Nat) (W : World), RdP W A1 Nx d1 Lx → Calls Try.prog 30 #[cellV k u (.slice A1 Nx d1)] W fun e w' => e = .returned (.agg #[.int .i64 1, .int .i64 (Sx : Nat), .string ⟨#[]⟩]) ∧ Below W.heap.size W w') := by
      intro A1 d1 W hW
      have := showB_any k u A1 Nx d1 Lx W hW (by have := BNS.out; omega)
      rw [hSx.out] at this
      exact this
    have HOK : Hid (∀ p ∈ l, okB p = true) := (rightS_iff.1 hr.out).2.1
    clear hn hr
    obtain ⟨g, hg⟩ : ∃ g, g = w.heap.size := ⟨_, rfl⟩
    obtain ⟨w0, hw0⟩ : ∃ w1, w1 = ((w.alloc (cellRow k u (.slice A n c))).alloc (dotRow ⟨dx, dy⟩)) := ⟨_, rfl⟩
    have HW0 := Lib.hid hw0; have HG := Lib.hid hg
    have hat : ∀ (w : World) (o : Obj) (g : Nat), w.heap.size = g → (w.alloc o).heap[g]? = some o := fun w o g h => by subst h; exact heap_alloc_new _ _
    have bb : Below w.heap.size w w0 := by rw [hw0]; exact below_new (below_new (Below.refl _ _) _) _
    have RX : Hid (w0.heap[g]? = some (cellRow k u (.slice A n c))) := by
      show _ = _
      rw [hw0, hg]
      rw [Below.heap_alloc _ _ _ (by simp only [World.size_alloc]; omega)]
      exact hat _ _ _ rfl
    have RQ : Hid (w0.heap[g + 1]? = some (dotRow ⟨dx, dy⟩)) := by
      show _ = _
      rw [hw0, hg]
      skip
      exact hat _ _ _ (by simp only [World.size_alloc])
    replace RD := Lib.hid (RD.out.below bb)
    replace HB := Lib.hid (below_then HB.out bb)
    clear bb hg hw0 hat
    go_enter Try.func9, Try.ntmps9
    go_upto_region 1 with fail
    rw [← HG.out]
    rw [show ((w.alloc (Obj.cells #[Value.int .i64 k, .int .i64 u.k, .int .i64 u.n, .string u.s, .slice A n c] 26)).alloc (Obj.cells #[Value.int .i64 dx, .int .i64 dy] 28)) = w0 from HW0.out.symm]
    clear HW0
    obtain ⟨RX0, RX1, RX2, RX3, RX4⟩ := cell_row5 RX.out
    go_wp2_with fail
    refine (FW.out _).mono ?_
    rintro e v1 ⟨rfl, bb⟩
    replace RX := Lib.hid (row_below RX.out bb)
    replace RQ := Lib.hid (row_below RQ.out bb)
    replace RD := Lib.hid (RD.out.below bb)
    replace HB := Lib.hid (below_then HB.out bb)
    clear bb
    clear RX0 RX1 RX2 RX3 RX4
    obtain ⟨RX0, RX1, RX2, RX3, RX4⟩ := cell_row5 RX.out
    go_wp2_with fail
    refine (CR.out _ RD.out).mono ?_
    rintro e v2 ⟨rfl, bb⟩
    replace RX := Lib.hid (row_below RX.out bb)
    replace RQ := Lib.hid (row_below RQ.out bb)
    replace RD := Lib.hid (RD.out.below bb)
    replace HB := Lib.hid (below_then HB.out bb)
    clear bb
    clear RX0 RX1 RX2 RX3 RX4
    obtain ⟨RX0, RX1, RX2, RX3, RX4⟩ := cell_row5 RX.out
    go_wp2_with fail
    refine (H0.out _ RD.out).mono ?_
    rintro e v3 ⟨rfl, bb⟩
    replace RX := Lib.hid (row_below RX.out bb)
    replace RQ := Lib.hid (row_below RQ.out bb)
    replace RD := Lib.hid (RD.out.below bb)
    replace HB := Lib.hid (below_then HB.out bb)
    clear bb
    clear RX0 RX1 RX2 RX3 RX4
    obtain ⟨RX0, RX1, RX2, RX3, RX4⟩ := cell_row5 RX.out
    clear H0 FW CR
    go_wp2_with fail
    go_loopw [8, 28] (fun s i wr => ∃ (j : Nat) (As : Option Addr) (na ca : Nat) (kn : List Int), j ≤ n ∧ i = .int .i64 j ∧ s = .slice As na ca ∧ Hid (Rd wr As na ca (vals .i64 kn)) ∧ Hid (AllK kn (l.take j)) ∧ Hid (Below v3.heap.size v3 wr)) (fun _ i _ => n - (intOf i).toNat)
    case atStart => exact ⟨0, none, 0, 0, [], Nat.zero_le _, rfl, rfl, Rd.nil_ _, allK_nil, Below.refl _ _⟩
    case round =>
      clear RX0 RX1 RX2 RX3 RX4
      obtain ⟨j, As, na, ca, kn, hj, rfl, rfl, hrk, hall, hbel⟩ := hrel
      have RK := hrk; clear hrk
      replace RX := Lib.hid (row_below RX.out hbel.out); replace RQ := Lib.hid (row_below RQ.out hbel.out)
      replace HB := Lib.hid (below_then HB.out hbel.out)
      by_cases hlt : j < n
      · obtain ⟨b', o, x, rfl, hb', hx, hld⟩ := RD.out.part hlt
        obtain ⟨e0, e1, e2, e3, e4, e5, e6, e7, e8, e9, e10⟩ := hld wr hbel.out
        have hstep := Lib.hid (allK_step hall.out hx (HOK.out x (List.mem_of_getElem? hx)))
        have HX := Lib.hid hx
        have HBV := Lib.hid hbel.out
        clear hx hld hbel hall
        obtain ⟨v41, hw⟩ : ∃ w', w' = wr.alloc (partCells x) := ⟨_, rfl⟩
        have RP : Hid (v41.heap[wr.heap.size]? = some (partCells x)) := by rw [hw]; exact heap_alloc_new _ _
        have bb : Below wr.heap.size wr v41 := by rw [hw]; exact below_new (Below.refl _ _) _
        replace hw := Lib.hid hw
        replace RX := Lib.hid (row_below RX.out bb)
        replace RQ := Lib.hid (row_below RQ.out bb)
        replace RK := Lib.hid (RK.out.below bb)
        replace HB := Lib.hid (below_then HB.out bb)
        replace HBV := Lib.hid (below_then HBV.out bb)
        clear bb
        go_upto_region 10 with fail
        rw [show wr.alloc (Obj.cells #[Value.int .i64 x.v.k, .int .i64 x.v.n, .string x.v.s, .int .i64 x.d.d, .int .i64 x.d.s, .int .i64 x.i, .int .i64 x.t, .int .i64 x.a.d, .int .i64 x.a.s, .int .i64 x.j, .bool x.g] 30) = v41 from hw.out.symm]
        clear hw
        generalize wr.heap.size = gRP at RP ⊢
        clear e0 e1 e2 e3 e4 e5 e6 e7 e8 e9 e10
        have hna : na ≤ 4294967296 := by have h1 := hstep.out.1; have h2 := RK.out.len; simp at h2; omega
        obtain ⟨q, hq⟩ : ∃ q, Hid (ofV kn x.d.d = q) := ⟨_, rfl⟩
        have OF : Hid (∀ W : World, Rd W As na ca (vals .i64 kn) → Calls Try.prog 28 #[.slice As na ca, .int .i64 x.d.d] W fun e w' => e = .returned (.int .i64 q) ∧ Below W.heap.size W w') := by
          intro W hW; rw [← hq.out]; exact (refOf_any As na ca kn x.d.d W hW).mono fun e w' h => ⟨h.1, by rw [h.2]; exact Below.refl _ _⟩
        have ST : Hid (∀ (v : Int) (W : World), Rd W As na ca (vals .i64 kn) → Calls Try.prog 29 #[.slice As na ca, .int .i64 x.d.d, .int .i64 v] W fun e w' => ∃ A' n' c', e = .returned (.slice A' n' c') ∧ Rd w' A' n' c' (vals .i64 (setV kn x.d.d v)) ∧ Below W.heap.size W w') := fun v W hW => refSet_any As na ca kn x.d.d v W hW hna
        have hs2 := Lib.hid hstep.out.2
        rw [hq.out] at hs2
        clear hna hstep hq
        by_cases hmx : q < x.d.s
        · obtain ⟨RP0, RP1, RP2, RP3, RP4, RP5, RP6, RP7, RP8, RP9, RP10⟩ := part_row RP.out

          have KA : Hid (∀ W, Below v41.heap.size v41 W → (Below v41.heap.size v41 W ∧ W.cell? ⟨gRP, 0, none⟩ = some (.int .i64 x.v.k) ∧ W.cell? ⟨gRP, 1, none⟩ = some (.int .i64 x.v.n) ∧ W.cell? ⟨gRP, 2, none⟩ = some (.string x.v.s) ∧ W.cell? ⟨gRP, 3, none⟩ = some (.int .i64 x.d.d) ∧ W.cell? ⟨gRP, 4, none⟩ = some (.int .i64 x.d.s) ∧ W.cell? ⟨gRP, 5, none⟩ = some (.int .i64 x.i) ∧ W.cell? ⟨gRP, 6, none⟩ = some (.int .i64 x.t) ∧ W.cell? ⟨gRP, 7, none⟩ = some (.int .i64 x.a.d) ∧ W.cell? ⟨gRP, 8, none⟩ = some (.int .i64 x.a.s) ∧ W.cell? ⟨gRP, 9, none⟩ = some (.int .i64 x.j) ∧ W.cell? ⟨gRP, 10, none⟩ = some (.bool x.g))) := by
            intro W hb
            have hc : ∀ (p : Addr) (y : Value), v41.cell? p = some y → W.cell? p = some y := fun p y h2 => (hb.cell (World.block_lt_of_cell? _ _ h2)).trans h2
            exact ⟨hb, hc _ _ RP0, hc _ _ RP1, hc _ _ RP2, hc _ _ RP3, hc _ _ RP4, hc _ _ RP5, hc _ _ RP6, hc _ _ RP7, hc _ _ RP8, hc _ _ RP9, hc _ _ RP10⟩
          clear RP0 RP1 RP2 RP3 RP4 RP5 RP6 RP7 RP8 RP9 RP10
          refine wp_region_noPanic ?_
          refine wp_region_held_drew (S := (fun W => Below v41.heap.size v41 W ∧ W.cell? ⟨gRP, 0, none⟩ = some (.int .i64 x.v.k) ∧ W.cell? ⟨gRP, 1, none⟩ = some (.int .i64 x.v.n) ∧ W.cell? ⟨gRP, 2, none⟩ = some (.string x.v.s) ∧ W.cell? ⟨gRP, 3, none⟩ = some (.int .i64 x.d.d) ∧ W.cell? ⟨gRP, 4, none⟩ = some (.int .i64 x.d.s) ∧ W.cell? ⟨gRP, 5, none⟩ = some (.int .i64 x.i) ∧ W.cell? ⟨gRP, 6, none⟩ = some (.int .i64 x.t) ∧ W.cell? ⟨gRP, 7, none⟩ = some (.int .i64 x.a.d) ∧ W.cell? ⟨gRP, 8, none⟩ = some (.int .i64 x.a.s) ∧ W.cell? ⟨gRP, 9, none⟩ = some (.int .i64 x.j) ∧ W.cell? ⟨gRP, 10, none⟩ = some (.bool x.g))) (by kernel_rfl) ?_ (fun hHeld => ?_)
          · exact KA.out _ ((Below.refl _ _).drew)
          refine wpAnyH_one (by kernel_rfl) (fun _ _ _ _ _ h => h) (by assumption) 0 14 (some 32) ?_ _ (by rfl) (by rfl) (by kernel_rfl) (by rfl) ?_ ?_
          rotate_left 1
          · intro W hSw
            (try dsimp only at hSw)
            go_simp
            (try with_reducible rfl)
          (try simp only [Act.put, List.setIfInBounds_toArray, List.set_cons_zero, List.set_cons_succ])
          refine wpAnyH_one (by kernel_rfl) (fun _ _ _ _ _ h => h) (by assumption) 1 13 (some 33) ?_ _ (by rfl) (by rfl) (by kernel_rfl) (by rfl) ?_ ?_
          rotate_left 1
          · intro W hSw
            (try dsimp only at hSw)
            go_simp
            (try with_reducible rfl)
          (try simp only [Act.put, List.setIfInBounds_toArray, List.set_cons_zero, List.set_cons_succ])
          refine wpAnyH_one (by kernel_rfl) (fun _ _ _ _ _ h => h) (by assumption) 2 12 (some 34) ?_ _ (by rfl) (by rfl) (by kernel_rfl) (by rfl) ?_ ?_
          rotate_left 1
          · intro W hSw
            (try dsimp only at hSw)
            go_simp
            (try with_reducible rfl)
          (try simp only [Act.put, List.setIfInBounds_toArray, List.set_cons_zero, List.set_cons_succ])
          refine wpAnyH_one (by kernel_rfl) (fun _ _ _ _ _ h => h) (by assumption) 3 11 (some 35) ?_ _ (by rfl) (by rfl) (by kernel_rfl) (by rfl) ?_ ?_
          rotate_left 1
          · intro W hSw
            (try dsimp only at hSw)
            go_simp
            (try with_reducible rfl)
          (try simp only [Act.put, List.setIfInBounds_toArray, List.set_cons_zero, List.set_cons_succ])
          refine wpAnyH_one (by kernel_rfl) (fun _ _ _ _ _ h => h) (by assumption) 4 10 (some 36) ?_ _ (by rfl) (by rfl) (by kernel_rfl) (by rfl) ?_ ?_
          rotate_left 1
          · intro W hSw
            (try dsimp only at hSw)
            go_simp
            (try with_reducible rfl)
          (try simp only [Act.put, List.setIfInBounds_toArray, List.set_cons_zero, List.set_cons_succ])
          refine wpAnyH_one (by kernel_rfl) (fun _ _ _ _ _ h => h) (by assumption) 5 9 (some 37) ?_ _ (by rfl) (by rfl) (by kernel_rfl) (by rfl) ?_ ?_
          rotate_left 1
          · intro W hSw
            (try dsimp only at hSw)
            go_simp
            (try with_reducible rfl)
          (try simp only [Act.put, List.setIfInBounds_toArray, List.set_cons_zero, List.set_cons_succ])
          refine wpAnyH_one (by kernel_rfl) (fun _ _ _ _ _ h => h) (by assumption) 6 8 (some 38) ?_ _ (by rfl) (by rfl) (by kernel_rfl) (by rfl) ?_ ?_
          rotate_left 1
          · intro W hSw
            (try dsimp only at hSw)
            go_simp
            (try with_reducible rfl)
          (try simp only [Act.put, List.setIfInBounds_toArray, List.set_cons_zero, List.set_cons_succ])
          refine wpAnyH_one (by kernel_rfl) (fun _ _ _ _ _ h => h) (by assumption) 7 7 (some 39) ?_ _ (by rfl) (by rfl) (by kernel_rfl) (by rfl) ?_ ?_
          rotate_left 1
          · intro W hSw
            (try dsimp only at hSw)
            go_simp
            (try with_reducible rfl)
          (try simp only [Act.put, List.setIfInBounds_toArray, List.set_cons_zero, List.set_cons_succ])
          refine wpAnyH_one (by kernel_rfl) (fun _ _ _ _ _ h => h) (by assumption) 9 6 (some 41) ?_ _ (by rfl) (by rfl) (by kernel_rfl) (by rfl) ?_ ?_
          rotate_left 1
          · intro W hSw
            (try dsimp only at hSw)
            go_simp
            (try with_reducible rfl)
          (try simp only [Act.put, List.setIfInBounds_toArray, List.set_cons_zero, List.set_cons_succ])
          refine wpAnyH_one (by kernel_rfl) (fun _ _ _ _ _ h => h) (by assumption) 10 5 (some 42) ?_ _ (by rfl) (by rfl) (by kernel_rfl) (by rfl) ?_ ?_
          rotate_left 1
          · intro W hSw
            (try dsimp only at hSw)
            go_simp
            (try with_reducible rfl)
          (try simp only [Act.put, List.setIfInBounds_toArray, List.set_cons_zero, List.set_cons_succ])
          refine wpAnyH_one (by kernel_rfl) (fun _ _ _ _ _ h => h) (by assumption) 11 4 (some 43) ?_ _ (by rfl) (by rfl) (by kernel_rfl) (by rfl) ?_ ?_
          rotate_left 1
          · intro W hSw
            (try dsimp only at hSw)
            go_simp
            (try with_reducible rfl)
          (try simp only [Act.put, List.setIfInBounds_toArray, List.set_cons_zero, List.set_cons_succ])
          refine wpAnyH_ready (rs := [8]) (by kernel_rfl) (by simp) (AllReadyH.cons rfl (fun K hK => ?_) AllReadyH.nil)
          go_simp
          refine (OF.out _ (RK.out.below hHeld.1)).mono ?_
          rintro e wx ⟨rfl, bb⟩
          (try go_wp2_with fail)
          refine hK.out _ _ ?_ (fun hHeld => ?_)
          · (try dsimp only)
            exact KA.out _ (below_then hHeld.1 bb)
          clear hK K
          (try simp only [Act.put, List.setIfInBounds_toArray, List.set_cons_zero, List.set_cons_succ])
          refine wpAnyH_one (by kernel_rfl) (fun _ _ _ _ _ h => h) (by assumption) 12 2 (some 44) ?_ _ (by rfl) (by rfl) (by kernel_rfl) (by rfl) ?_ ?_
          rotate_left 1
          · intro W hSw
            (try dsimp only at hSw)
            go_simp
            (try with_reducible rfl)
          (try simp only [Act.put, List.setIfInBounds_toArray, List.set_cons_zero, List.set_cons_succ])
          refine wpAnyH_ready (rs := [13]) (by kernel_rfl) (by simp) (AllReadyH.cons rfl (fun K hK => ?_) AllReadyH.nil)
          go_simp
          refine (ST.out _ _ (RK.out.below hHeld.1)).mono ?_
          rintro e wx ⟨A9, n9, c9, rfl, r9, bb⟩
          (try go_wp2_with fail)
          refine hK.out _ _ ?_ (fun hHeld => ?_)
          · (try dsimp only)
            exact KA.out _ (below_then hHeld.1 bb)
          clear hK K
          (try simp only [Act.put, List.setIfInBounds_toArray, List.set_cons_zero, List.set_cons_succ])
          refine wpAnyH_one (by kernel_rfl) (fun _ _ _ _ _ h => h) (by assumption) 14 0 (some 8) ?_ _ (by rfl) (by rfl) (by kernel_rfl) (by rfl) ?_ ?_
          rotate_left 1
          · intro W hSw
            (try dsimp only at hSw)
            go_simp
            (try with_reducible rfl)
          (try simp only [Act.put, List.setIfInBounds_toArray, List.set_cons_zero, List.set_cons_succ])
          refine wpAnyH_done (by kernel_rfl) ?_ _
          refine NoPanic.normal ?_
          (try simp only [Act.put, List.setIfInBounds_toArray, List.set_cons_zero, List.set_cons_succ])
          have HBV2 := Lib.hid (below_then HBV.out hHeld.1)
          have R9 := Lib.hid r9
          clear r9
          go_wp2_with fail
          exact ⟨⟨j + 1, A9, n9, c9, _, by omega, by go_num, rfl, R9, by show AllK _ _; exact (by have := hs2.out; rwa [Int.max_eq_right (by omega)] at this), HBV2⟩, by simp [intOf]; omega⟩
        · obtain ⟨RP0, RP1, RP2, RP3, RP4, RP5, RP6, RP7, RP8, RP9, RP10⟩ := part_row RP.out

          have KA : Hid (∀ W, Below v41.heap.size v41 W → (Below v41.heap.size v41 W ∧ W.cell? ⟨gRP, 0, none⟩ = some (.int .i64 x.v.k) ∧ W.cell? ⟨gRP, 1, none⟩ = some (.int .i64 x.v.n) ∧ W.cell? ⟨gRP, 2, none⟩ = some (.string x.v.s) ∧ W.cell? ⟨gRP, 3, none⟩ = some (.int .i64 x.d.d) ∧ W.cell? ⟨gRP, 4, none⟩ = some (.int .i64 x.d.s) ∧ W.cell? ⟨gRP, 5, none⟩ = some (.int .i64 x.i) ∧ W.cell? ⟨gRP, 6, none⟩ = some (.int .i64 x.t) ∧ W.cell? ⟨gRP, 7, none⟩ = some (.int .i64 x.a.d) ∧ W.cell? ⟨gRP, 8, none⟩ = some (.int .i64 x.a.s) ∧ W.cell? ⟨gRP, 9, none⟩ = some (.int .i64 x.j) ∧ W.cell? ⟨gRP, 10, none⟩ = some (.bool x.g))) := by
            intro W hb
            have hc : ∀ (p : Addr) (y : Value), v41.cell? p = some y → W.cell? p = some y := fun p y h2 => (hb.cell (World.block_lt_of_cell? _ _ h2)).trans h2
            exact ⟨hb, hc _ _ RP0, hc _ _ RP1, hc _ _ RP2, hc _ _ RP3, hc _ _ RP4, hc _ _ RP5, hc _ _ RP6, hc _ _ RP7, hc _ _ RP8, hc _ _ RP9, hc _ _ RP10⟩
          clear RP0 RP1 RP2 RP3 RP4 RP5 RP6 RP7 RP8 RP9 RP10
          refine wp_region_noPanic ?_
          refine wp_region_held_drew (S := (fun W => Below v41.heap.size v41 W ∧ W.cell? ⟨gRP, 0, none⟩ = some (.int .i64 x.v.k) ∧ W.cell? ⟨gRP, 1, none⟩ = some (.int .i64 x.v.n) ∧ W.cell? ⟨gRP, 2, none⟩ = some (.string x.v.s) ∧ W.cell? ⟨gRP, 3, none⟩ = some (.int .i64 x.d.d) ∧ W.cell? ⟨gRP, 4, none⟩ = some (.int .i64 x.d.s) ∧ W.cell? ⟨gRP, 5, none⟩ = some (.int .i64 x.i) ∧ W.cell? ⟨gRP, 6, none⟩ = some (.int .i64 x.t) ∧ W.cell? ⟨gRP, 7, none⟩ = some (.int .i64 x.a.d) ∧ W.cell? ⟨gRP, 8, none⟩ = some (.int .i64 x.a.s) ∧ W.cell? ⟨gRP, 9, none⟩ = some (.int .i64 x.j) ∧ W.cell? ⟨gRP, 10, none⟩ = some (.bool x.g))) (by kernel_rfl) ?_ (fun hHeld => ?_)
          · exact KA.out _ ((Below.refl _ _).drew)
          refine wpAnyH_one (by kernel_rfl) (fun _ _ _ _ _ h => h) (by assumption) 0 14 (some 32) ?_ _ (by rfl) (by rfl) (by kernel_rfl) (by rfl) ?_ ?_
          rotate_left 1
          · intro W hSw
            (try dsimp only at hSw)
            go_simp
            (try with_reducible rfl)
          (try simp only [Act.put, List.setIfInBounds_toArray, List.set_cons_zero, List.set_cons_succ])
          refine wpAnyH_one (by kernel_rfl) (fun _ _ _ _ _ h => h) (by assumption) 1 13 (some 33) ?_ _ (by rfl) (by rfl) (by kernel_rfl) (by rfl) ?_ ?_
          rotate_left 1
          · intro W hSw
            (try dsimp only at hSw)
            go_simp
            (try with_reducible rfl)
          (try simp only [Act.put, List.setIfInBounds_toArray, List.set_cons_zero, List.set_cons_succ])
          refine wpAnyH_one (by kernel_rfl) (fun _ _ _ _ _ h => h) (by assumption) 2 12 (some 34) ?_ _ (by rfl) (by rfl) (by kernel_rfl) (by rfl) ?_ ?_
          rotate_left 1
          · intro W hSw
            (try dsimp only at hSw)
            go_simp
            (try with_reducible rfl)
          (try simp only [Act.put, List.setIfInBounds_toArray, List.set_cons_zero, List.set_cons_succ])
          refine wpAnyH_one (by kernel_rfl) (fun _ _ _ _ _ h => h) (by assumption) 3 11 (some 35) ?_ _ (by rfl) (by rfl) (by kernel_rfl) (by rfl) ?_ ?_
          rotate_left 1
          · intro W hSw
            (try dsimp only at hSw)
            go_simp
            (try with_reducible rfl)
          (try simp only [Act.put, List.setIfInBounds_toArray, List.set_cons_zero, List.set_cons_succ])
          refine wpAnyH_one (by kernel_rfl) (fun _ _ _ _ _ h => h) (by assumption) 4 10 (some 36) ?_ _ (by rfl) (by rfl) (by kernel_rfl) (by rfl) ?_ ?_
          rotate_left 1
          · intro W hSw
            (try dsimp only at hSw)
            go_simp
            (try with_reducible rfl)
          (try simp only [Act.put, List.setIfInBounds_toArray, List.set_cons_zero, List.set_cons_succ])
          refine wpAnyH_one (by kernel_rfl) (fun _ _ _ _ _ h => h) (by assumption) 5 9 (some 37) ?_ _ (by rfl) (by rfl) (by kernel_rfl) (by rfl) ?_ ?_
          rotate_left 1
          · intro W hSw
            (try dsimp only at hSw)
            go_simp
            (try with_reducible rfl)
          (try simp only [Act.put, List.setIfInBounds_toArray, List.set_cons_zero, List.set_cons_succ])
          refine wpAnyH_one (by kernel_rfl) (fun _ _ _ _ _ h => h) (by assumption) 6 8 (some 38) ?_ _ (by rfl) (by rfl) (by kernel_rfl) (by rfl) ?_ ?_
          rotate_left 1
          · intro W hSw
            (try dsimp only at hSw)
            go_simp
            (try with_reducible rfl)
          (try simp only [Act.put, List.setIfInBounds_toArray, List.set_cons_zero, List.set_cons_succ])
          refine wpAnyH_one (by kernel_rfl) (fun _ _ _ _ _ h => h) (by assumption) 7 7 (some 39) ?_ _ (by rfl) (by rfl) (by kernel_rfl) (by rfl) ?_ ?_
          rotate_left 1
          · intro W hSw
            (try dsimp only at hSw)
            go_simp
            (try with_reducible rfl)
          (try simp only [Act.put, List.setIfInBounds_toArray, List.set_cons_zero, List.set_cons_succ])
          refine wpAnyH_one (by kernel_rfl) (fun _ _ _ _ _ h => h) (by assumption) 9 6 (some 41) ?_ _ (by rfl) (by rfl) (by kernel_rfl) (by rfl) ?_ ?_
          rotate_left 1
          · intro W hSw
            (try dsimp only at hSw)
            go_simp
            (try with_reducible rfl)
          (try simp only [Act.put, List.setIfInBounds_toArray, List.set_cons_zero, List.set_cons_succ])
          refine wpAnyH_one (by kernel_rfl) (fun _ _ _ _ _ h => h) (by assumption) 10 5 (some 42) ?_ _ (by rfl) (by rfl) (by kernel_rfl) (by rfl) ?_ ?_
          rotate_left 1
          · intro W hSw
            (try dsimp only at hSw)
            go_simp
            (try with_reducible rfl)
          (try simp only [Act.put, List.setIfInBounds_toArray, List.set_cons_zero, List.set_cons_succ])
          refine wpAnyH_one (by kernel_rfl) (fun _ _ _ _ _ h => h) (by assumption) 11 4 (some 43) ?_ _ (by rfl) (by rfl) (by kernel_rfl) (by rfl) ?_ ?_
          rotate_left 1
          · intro W hSw
            (try dsimp only at hSw)
            go_simp
            (try with_reducible rfl)
          (try simp only [Act.put, List.setIfInBounds_toArray, List.set_cons_zero, List.set_cons_succ])
          refine wpAnyH_ready (rs := [8]) (by kernel_rfl) (by simp) (AllReadyH.cons rfl (fun K hK => ?_) AllReadyH.nil)
          go_simp
          refine (OF.out _ (RK.out.below hHeld.1)).mono ?_
          rintro e wx ⟨rfl, bb⟩
          (try go_wp2_with fail)
          refine hK.out _ _ ?_ (fun hHeld => ?_)
          · (try dsimp only)
            exact KA.out _ (below_then hHeld.1 bb)
          clear hK K
          (try simp only [Act.put, List.setIfInBounds_toArray, List.set_cons_zero, List.set_cons_succ])
          refine wpAnyH_one (by kernel_rfl) (fun _ _ _ _ _ h => h) (by assumption) 12 2 (some 44) ?_ _ (by rfl) (by rfl) (by kernel_rfl) (by rfl) ?_ ?_
          rotate_left 1
          · intro W hSw
            (try dsimp only at hSw)
            go_simp
            (try with_reducible rfl)
          (try simp only [Act.put, List.setIfInBounds_toArray, List.set_cons_zero, List.set_cons_succ])
          refine wpAnyH_ready (rs := [13]) (by kernel_rfl) (by simp) (AllReadyH.cons rfl (fun K hK => ?_) AllReadyH.nil)
          go_simp
          refine (ST.out _ _ (RK.out.below hHeld.1)).mono ?_
          rintro e wx ⟨A9, n9, c9, rfl, r9, bb⟩
          (try go_wp2_with fail)
          refine hK.out _ _ ?_ (fun hHeld => ?_)
          · (try dsimp only)
            exact KA.out _ (below_then hHeld.1 bb)
          clear hK K
          (try simp only [Act.put, List.setIfInBounds_toArray, List.set_cons_zero, List.set_cons_succ])
          refine wpAnyH_one (by kernel_rfl) (fun _ _ _ _ _ h => h) (by assumption) 14 0 (some 8) ?_ _ (by rfl) (by rfl) (by kernel_rfl) (by rfl) ?_ ?_
          rotate_left 1
          · intro W hSw
            (try dsimp only at hSw)
            go_simp
            (try with_reducible rfl)
          (try simp only [Act.put, List.setIfInBounds_toArray, List.set_cons_zero, List.set_cons_succ])
          refine wpAnyH_done (by kernel_rfl) ?_ _
          refine NoPanic.normal ?_
          (try simp only [Act.put, List.setIfInBounds_toArray, List.set_cons_zero, List.set_cons_succ])
          have HBV2 := Lib.hid (below_then HBV.out hHeld.1)
          have R9 := Lib.hid r9
          clear r9
          go_wp2_with fail
          exact ⟨⟨j + 1, A9, n9, c9, _, by omega, by go_num, rfl, R9, by show AllK _ _; exact (by have := hs2.out; rwa [Int.max_eq_left (by omega)] at this), HBV2⟩, by simp [intOf]; omega⟩
      · have hK : Hid (∀ p ∈ l, knowsV kn p.d = true) := by
          have := hall.out.2
          rwa [List.take_of_length_le (by rw [HLN.out]; omega)] at this
        replace RD := Lib.hid (RD.out.below hbel.out)
        obtain ⟨Ly, hLy⟩ : ∃ L, Hid (takeB Lx z ⟨dx, dy⟩ kn = L) := ⟨_, rfl⟩
        obtain ⟨Ny, hNNy⟩ : ∃ N, Hid (Ly.length = N) := ⟨_, rfl⟩
        obtain ⟨Sy, hSy⟩ : ∃ N, Hid ((numsB Ly).length = N) := ⟨_, rfl⟩
        have hxy : Sx = Sy + 1 := by
          have := counts_take (n := z) (d := ⟨dx, dy⟩) hK.out
          rw [hLx.out, hLy.out, hSx.out, hSy.out] at this
          exact this
        have by_ : Ny ≤ 61 := by
          have := List.length_filter_le (leavesB z ⟨dx, dy⟩ kn) Lx
          rw [show Lx.filter (leavesB z ⟨dx, dy⟩ kn) = Ly from hLy.out, hNNy.out, hNNx.out] at this
          have := BNS.out; omega
        replace BNS := Lib.hid (And.intro BNS.out by_)
        have HXY := Lib.hid hxy
        clear hbel hall hK by_ hxy
        have T1 : Hid (∀ (A1 : Option Addr) (d1 : Nat) (W : World), RdP W A1 Nx d1 Lx → Rd W As na ca (vals .i64 kn) → Calls Try.prog 24 #[cellV k u (.slice A1 Nx d1), .int .i64 z, .agg #[.int .i64 dx, .int .i64 dy], .slice As na ca] W fun e w' => ∃ A' c', e = .returned (cellV k u (.slice A' Ny c')) ∧ RdP w' A' Ny c' Ly ∧ Below W.heap.size W w') := by
          intro A1 d1 W hW hK
          have := takeB_any k u A1 Nx d1 Lx z ⟨dx, dy⟩ As na ca kn W hW (by have := BNS.out; omega) hK
          rw [hLy.out, hNNy.out] at this
          exact this
        have SY : Hid (∀ (A1 : Option Addr) (d1 : Nat) (W : World), RdP W A1 Ny d1 Ly → Calls Try.prog 30 #[cellV k u (.slice A1 Ny d1)] W fun e w' => e = .returned (.agg #[.int .i64 1, .int .i64 (Sy : Nat), .string ⟨#[]⟩]) ∧ Below W.heap.size W w') := by
          intro A1 d1 W hW
          have := showB_any k u A1 Ny d1 Ly W hW (by have := BNS.out; omega)
          rw [hSy.out] at this
          exact this
        obtain ⟨RX0, RX1, RX2, RX3, RX4⟩ := cell_row5 RX.out
        obtain ⟨RQ0, RQ1⟩ := dot_row RQ.out
        try dsimp only at RQ0 RQ1
        go_wp2_with fail
        refine (P1.out _ RD.out).mono ?_
        rintro e v61 ⟨A1, d1, rfl, hrl, bb⟩
        replace RX := Lib.hid (row_below RX.out bb)
        replace RQ := Lib.hid (row_below RQ.out bb)
        replace RD := Lib.hid (RD.out.below bb)
        replace RK := Lib.hid (RK.out.below bb)
        replace HB := Lib.hid (below_then HB.out bb)
        clear bb
        have RL := Lib.hid hrl
        clear hrl
        clear RX0 RX1 RX2 RX3 RX4 RQ0 RQ1
        obtain ⟨v62, hw⟩ : ∃ w', w' = v61.alloc (cellRow k u (.slice A1 Nx d1)) := ⟨_, rfl⟩
        have RW : Hid (v62.heap[v61.heap.size]? = some (cellRow k u (.slice A1 Nx d1))) := by rw [hw]; exact heap_alloc_new _ _
        have bb : Below v61.heap.size v61 v62 := by rw [hw]; exact below_new (Below.refl _ _) _
        replace hw := Lib.hid hw
        replace RX := Lib.hid (row_below RX.out bb)
        replace RQ := Lib.hid (row_below RQ.out bb)
        replace RD := Lib.hid (RD.out.below bb)
        replace RK := Lib.hid (RK.out.below bb)
        replace RL := Lib.hid (RL.out.below bb)
        replace HB := Lib.hid (below_then HB.out bb)
        clear bb
        go_upto_region 13 with fail
        rw [show v61.alloc (Obj.cells #[Value.int .i64 k, .int .i64 u.k, .int .i64 u.n, .string u.s, .slice A1 Nx d1] 26) = v62 from hw.out.symm]
        clear hw
        generalize v61.heap.size = gRW at RW ⊢
        obtain ⟨RW0, RW1, RW2, RW3, RW4⟩ := cell_row5 RW.out
        obtain ⟨RQ0, RQ1⟩ := dot_row RQ.out
        try dsimp only at RQ0 RQ1
        go_wp2_with fail
        refine (T1.out _ _ _ RL.out RK.out).mono ?_
        rintro e v63 ⟨A2, d2, rfl, hry, bb⟩
        replace RX := Lib.hid (row_below RX.out bb)
        replace RQ := Lib.hid (row_below RQ.out bb)
        replace RW := Lib.hid (row_below RW.out bb)
        replace RD := Lib.hid (RD.out.below bb)
        replace RK := Lib.hid (RK.out.below bb)
        replace RL := Lib.hid (RL.out.below bb)
        replace HB := Lib.hid (below_then HB.out bb)
        clear bb
        have RM := Lib.hid hry
        clear hry
        clear RW0 RW1 RW2 RW3 RW4 RQ0 RQ1
        obtain ⟨v64, hw⟩ : ∃ w', w' = v63.alloc (cellRow k u (.slice A2 Ny d2)) := ⟨_, rfl⟩
        have RY : Hid (v64.heap[v63.heap.size]? = some (cellRow k u (.slice A2 Ny d2))) := by rw [hw]; exact heap_alloc_new _ _
        have bb : Below v63.heap.size v63 v64 := by rw [hw]; exact below_new (Below.refl _ _) _
        replace hw := Lib.hid hw
        replace RX := Lib.hid (row_below RX.out bb)
        replace RQ := Lib.hid (row_below RQ.out bb)
        replace RW := Lib.hid (row_below RW.out bb)
        replace RD := Lib.hid (RD.out.below bb)
        replace RK := Lib.hid (RK.out.below bb)
        replace RL := Lib.hid (RL.out.below bb)
        replace RM := Lib.hid (RM.out.below bb)
        replace HB := Lib.hid (below_then HB.out bb)
        clear bb
        go_upto_region 14 with fail
        rw [show v63.alloc (Obj.cells #[Value.int .i64 k, .int .i64 u.k, .int .i64 u.n, .string u.s, .slice A2 Ny d2] 26) = v64 from hw.out.symm]
        clear hw
        generalize v63.heap.size = gRY at RY ⊢
        have hw1 : IntKind.i64.wrap ((Sc : Int)) = (Sx : Int) := by have h1 := HCX.out; rw [wrap_is (by omega)]; omega
        have hw2 : IntKind.i64.wrap ((Sx : Int) - 1) = (Sy : Int) := by have h1 := HCX.out; have h2 := HXY.out; rw [wrap_is (by omega)]; omega
        have FLD : ∀ (z : Int) (W : World), (Instr.field 23 (.agg #[.int .i64 1, .int .i64 z, .string ⟨#[]⟩]) 1).run Try.prog W = .ok (.int .i64 z) W := fun _ _ => by kernel_rfl
        have FLD0 : ∀ (z : Int) (W : World), (Instr.field 23 (.agg #[.int .i64 1, .int .i64 z, .string ⟨#[]⟩]) 0).run Try.prog W = .ok (.int .i64 1) W := fun _ _ => by kernel_rfl
        clear hb hLx hLy hNNx hNNy hSc hSx hSy BNS HCX HXY HOK P1 T1
        obtain ⟨RX0, RX1, RX2, RX3, RX4⟩ := cell_row5 RX.out
        obtain ⟨RW0, RW1, RW2, RW3, RW4⟩ := cell_row5 RW.out
        obtain ⟨RY0, RY1, RY2, RY3, RY4⟩ := cell_row5 RY.out
        have KA : Hid (∀ W, Below v64.heap.size v64 W → (Below v64.heap.size v64 W ∧ W.cell? ⟨g, 0, none⟩ = some (.int .i64 k) ∧ W.cell? ⟨g, 1, none⟩ = some (.int .i64 u.k) ∧ W.cell? ⟨g, 2, none⟩ = some (.int .i64 u.n) ∧ W.cell? ⟨g, 3, none⟩ = some (.string u.s) ∧ W.cell? ⟨g, 4, none⟩ = some (.slice A n c) ∧ W.cell? ⟨gRW, 0, none⟩ = some (.int .i64 k) ∧ W.cell? ⟨gRW, 1, none⟩ = some (.int .i64 u.k) ∧ W.cell? ⟨gRW, 2, none⟩ = some (.int .i64 u.n) ∧ W.cell? ⟨gRW, 3, none⟩ = some (.string u.s) ∧ W.cell? ⟨gRW, 4, none⟩ = some (.slice A1 Nx d1) ∧ W.cell? ⟨gRY, 0, none⟩ = some (.int .i64 k) ∧ W.cell? ⟨gRY, 1, none⟩ = some (.int .i64 u.k) ∧ W.cell? ⟨gRY, 2, none⟩ = some (.int .i64 u.n) ∧ W.cell? ⟨gRY, 3, none⟩ = some (.string u.s) ∧ W.cell? ⟨gRY, 4, none⟩ = some (.slice A2 Ny d2))) := by
          intro W hb
          have hc : ∀ (p : Addr) (y : Value), v64.cell? p = some y → W.cell? p = some y := fun p y h2 => (hb.cell (World.block_lt_of_cell? _ _ h2)).trans h2
          exact ⟨hb, hc _ _ RX0, hc _ _ RX1, hc _ _ RX2, hc _ _ RX3, hc _ _ RX4, hc _ _ RW0, hc _ _ RW1, hc _ _ RW2, hc _ _ RW3, hc _ _ RW4, hc _ _ RY0, hc _ _ RY1, hc _ _ RY2, hc _ _ RY3, hc _ _ RY4⟩
        clear RX0 RX1 RX2 RX3 RX4 RW0 RW1 RW2 RW3 RW4 RY0 RY1 RY2 RY3 RY4
        go_upto_region 14 with fail
        refine wp_region_noPanic ?_
        refine wp_region_held_drew (S := (fun W => Below v64.heap.size v64 W ∧ W.cell? ⟨g, 0, none⟩ = some (.int .i64 k) ∧ W.cell? ⟨g, 1, none⟩ = some (.int .i64 u.k) ∧ W.cell? ⟨g, 2, none⟩ = some (.int .i64 u.n) ∧ W.cell? ⟨g, 3, none⟩ = some (.string u.s) ∧ W.cell? ⟨g, 4, none⟩ = some (.slice A n c) ∧ W.cell? ⟨gRW, 0, none⟩ = some (.int .i64 k) ∧ W.cell? ⟨gRW, 1, none⟩ = some (.int .i64 u.k) ∧ W.cell? ⟨gRW, 2, none⟩ = some (.int .i64 u.n) ∧ W.cell? ⟨gRW, 3, none⟩ = some (.string u.s) ∧ W.cell? ⟨gRW, 4, none⟩ = some (.slice A1 Nx d1) ∧ W.cell? ⟨gRY, 0, none⟩ = some (.int .i64 k) ∧ W.cell? ⟨gRY, 1, none⟩ = some (.int .i64 u.k) ∧ W.cell? ⟨gRY, 2, none⟩ = some (.int .i64 u.n) ∧ W.cell? ⟨gRY, 3, none⟩ = some (.string u.s) ∧ W.cell? ⟨gRY, 4, none⟩ = some (.slice A2 Ny d2))) (by kernel_rfl) ?_ (fun hHeld => ?_)
        · exact KA.out _ ((Below.refl _ _).drew)
        refine wpAnyH_ready (rs := [0]) (by kernel_rfl) (by simp) (AllReadyH.cons rfl (fun K hK => ?_) AllReadyH.nil)
        go_simp
        refine (alive9_any _).mono ?_
        rintro e wx ⟨rfl, bb⟩
        (try go_wp2_with fail)
        refine hK.out _ _ ?_ (fun hHeld => ?_)
        · (try dsimp only)
          exact KA.out _ (below_then hHeld.1 bb)
        clear hK K
        (try simp only [Act.put, List.setIfInBounds_toArray, List.set_cons_zero, List.set_cons_succ])
        refine wpAnyH_one (by kernel_rfl) (fun _ _ _ _ _ h => h) (by assumption) 1 27 (some 57) ?_ _ (by rfl) (by rfl) (by kernel_rfl) (by rfl) ?_ ?_
        rotate_left 1
        · intro W hSw
          (try dsimp only at hSw)
          go_simp
          (try with_reducible rfl)
        (try simp only [Act.put, List.setIfInBounds_toArray, List.set_cons_zero, List.set_cons_succ])
        refine wpAnyH_one (by kernel_rfl) (fun _ _ _ _ _ h => h) (by assumption) 2 26 (some 58) ?_ _ (by rfl) (by rfl) (by kernel_rfl) (by rfl) ?_ ?_
        rotate_left 1
        · intro W hSw
          (try dsimp only at hSw)
          go_simp
          (try with_reducible rfl)
        (try simp only [Act.put, List.setIfInBounds_toArray, List.set_cons_zero, List.set_cons_succ])
        refine wpAnyH_one (by kernel_rfl) (fun _ _ _ _ _ h => h) (by assumption) 5 25 (some 61) ?_ _ (by rfl) (by rfl) (by kernel_rfl) (by rfl) ?_ ?_
        rotate_left 1
        · intro W hSw
          (try dsimp only at hSw)
          go_simp
          (try with_reducible rfl)
        (try simp only [Act.put, List.setIfInBounds_toArray, List.set_cons_zero, List.set_cons_succ])
        refine wpAnyH_one (by kernel_rfl) (fun _ _ _ _ _ h => h) (by assumption) 8 24 (some 64) ?_ _ (by rfl) (by rfl) (by kernel_rfl) (by rfl) ?_ ?_
        rotate_left 1
        · intro W hSw
          (try dsimp only at hSw)
          go_simp
          (try with_reducible rfl)
        (try simp only [Act.put, List.setIfInBounds_toArray, List.set_cons_zero, List.set_cons_succ])
        refine wpAnyH_ready (rs := [3]) (by kernel_rfl) (by simp) (AllReadyH.cons rfl (fun K hK => ?_) AllReadyH.nil)
        go_simp
        refine (SX.out _ _ _ (RL.out.below hHeld.1)).mono ?_
        rintro e wx ⟨rfl, bb⟩
        (try go_wp2_with fail)
        refine hK.out _ _ ?_ (fun hHeld => ?_)
        · (try dsimp only)
          exact KA.out _ (below_then hHeld.1 bb)
        clear hK K
        (try simp only [Act.put, List.setIfInBounds_toArray, List.set_cons_zero, List.set_cons_succ])
        refine wpAnyH_one (by kernel_rfl) (fun _ _ _ _ _ h => h) (by assumption) 4 22 (some 60) ?_ _ (by rfl) (by rfl) (by kernel_rfl) (by rfl) ?_ ?_
        rotate_left 1
        · intro W hSw
          (try dsimp only at hSw)
          go_simp
          (try with_reducible rfl)
        (try simp only [Act.put, List.setIfInBounds_toArray, List.set_cons_zero, List.set_cons_succ])
        refine wpAnyH_ready (rs := [6]) (by kernel_rfl) (by simp) (AllReadyH.cons rfl (fun K hK => ?_) AllReadyH.nil)
        go_simp
        refine (SC.out _ (RD.out.below hHeld.1)).mono ?_
        rintro e wx ⟨rfl, bb⟩
        (try go_wp2_with fail)
        refine hK.out _ _ ?_ (fun hHeld => ?_)
        · (try dsimp only)
          exact KA.out _ (below_then hHeld.1 bb)
        clear hK K
        (try simp only [Act.put, List.setIfInBounds_toArray, List.set_cons_zero, List.set_cons_succ])
        refine wpAnyH_one (by kernel_rfl) (fun _ _ _ _ _ h => h) (by assumption) 7 20 (some 63) ?_ _ (by rfl) (by rfl) (by kernel_rfl) (by rfl) ?_ ?_
        rotate_left 1
        · intro W hSw
          (try dsimp only at hSw)
          go_simp
          (try with_reducible rfl)
        (try simp only [Act.put, List.setIfInBounds_toArray, List.set_cons_zero, List.set_cons_succ])
        refine wpAnyH_one (by kernel_rfl) (fun _ _ _ _ _ h => h) (by assumption) 9 19 (some 65) ?_ _ (by rfl) (by rfl) (by kernel_rfl) (by rfl) ?_ ?_
        rotate_left 1
        · intro W hSw
          (try dsimp only at hSw)
          go_simp
          (try with_reducible rfl)
        (try simp only [Act.put, List.setIfInBounds_toArray, List.set_cons_zero, List.set_cons_succ])
        refine wpAnyH_one (by kernel_rfl) (fun _ _ _ _ _ h => h) (by assumption) 10 18 (some 66) ?_ _ (by rfl) (by rfl) (by kernel_rfl) (by rfl) ?_ ?_
        rotate_left 1
        · intro W hSw
          (try dsimp only at hSw)
          go_simp
          (try with_reducible rfl)
        (try simp only [Act.put, List.setIfInBounds_toArray, List.set_cons_zero, List.set_cons_succ])
        refine wpAnyH_one (by kernel_rfl) (fun _ _ _ _ _ h => h) (by assumption) 11 17 (some 67) ?_ _ (by rfl) (by rfl) (by kernel_rfl) (by rfl) ?_ ?_
        rotate_left 1
        · intro W hSw
          (try dsimp only at hSw)
          go_simp
          (try with_reducible rfl)
        (try simp only [Act.put, List.setIfInBounds_toArray, List.set_cons_zero, List.set_cons_succ])
        refine wpAnyH_one (by kernel_rfl) (fun _ _ _ _ _ h => h) (by assumption) 12 16 (some 68) ?_ _ (by rfl) (by rfl) (by kernel_rfl) (by rfl) ?_ ?_
        rotate_left 1
        · intro W hSw
          (try dsimp only at hSw)
          go_simp
          (try with_reducible rfl)
        (try simp only [Act.put, List.setIfInBounds_toArray, List.set_cons_zero, List.set_cons_succ])
        refine wpAnyH_one (by kernel_rfl) (fun _ _ _ _ _ h => h) (by assumption) 13 15 (some 69) ?_ _ (by rfl) (by rfl) (by kernel_rfl) (by rfl) ?_ ?_
        rotate_left 1
        · intro W hSw
          (try dsimp only at hSw)
          go_simp
          (try with_reducible rfl)
        (try simp only [Act.put, List.setIfInBounds_toArray, List.set_cons_zero, List.set_cons_succ])
        refine wpAnyH_one (by kernel_rfl) (fun _ _ _ _ _ h => h) (by assumption) 16 14 (some 72) ?_ _ (by rfl) (by rfl) (by kernel_rfl) (by rfl) ?_ ?_
        rotate_left 1
        · intro W hSw
          (try dsimp only at hSw)
          go_simp
          (try with_reducible rfl)
        (try simp only [Act.put, List.setIfInBounds_toArray, List.set_cons_zero, List.set_cons_succ])
        refine wpAnyH_ready (rs := [14]) (by kernel_rfl) (by simp) (AllReadyH.cons rfl (fun K hK => ?_) AllReadyH.nil)
        go_simp
        refine (SY.out _ _ _ (RM.out.below hHeld.1)).mono ?_
        rintro e wx ⟨rfl, bb⟩
        (try go_wp2_with fail)
        refine hK.out _ _ ?_ (fun hHeld => ?_)
        · (try dsimp only)
          exact KA.out _ (below_then hHeld.1 bb)
        clear hK K
        (try simp only [Act.put, List.setIfInBounds_toArray, List.set_cons_zero, List.set_cons_succ])
        refine wpAnyH_one (by kernel_rfl) (fun _ _ _ _ _ h => h) (by assumption) 15 12 (some 71) ?_ _ (by rfl) (by rfl) (by kernel_rfl) (by rfl) ?_ ?_
        rotate_left 1
        · intro W hSw
          (try dsimp only at hSw)
          go_simp
          (try with_reducible rfl)
        (try simp only [Act.put, List.setIfInBounds_toArray, List.set_cons_zero, List.set_cons_succ])
        refine wpAnyH_ready (rs := [17]) (by kernel_rfl) (by simp) (AllReadyH.cons rfl (fun K hK => ?_) AllReadyH.nil)
        go_simp
        refine (SX.out _ _ _ (RL.out.below hHeld.1)).mono ?_
        rintro e wx ⟨rfl, bb⟩
        (try go_wp2_with fail)
        refine hK.out _ _ ?_ (fun hHeld => ?_)
        · (try dsimp only)
          exact KA.out _ (below_then hHeld.1 bb)
        clear hK K
        (try simp only [Act.put, List.setIfInBounds_toArray, List.set_cons_zero, List.set_cons_succ])
        refine wpAnyH_one (by kernel_rfl) (fun _ _ _ _ _ h => h) (by assumption) 18 10 (some 74) ?_ _ (by rfl) (by rfl) (by kernel_rfl) (by rfl) ?_ ?_
        rotate_left 1
        · intro W hSw
          (try dsimp only at hSw)
          go_simp
          (try with_reducible rfl)
        (try simp only [Act.put, List.setIfInBounds_toArray, List.set_cons_zero, List.set_cons_succ])
        refine wpAnyH_one (by kernel_rfl) (fun _ _ _ _ _ h => h) (by assumption) 19 9 (some 75) ?_ _ (by rfl) (by rfl) (by kernel_rfl) (by rfl) ?_ ?_
        rotate_left 1
        · intro W hSw
          (try dsimp only at hSw)
          go_simp
          (try with_reducible rfl)
        (try simp only [Act.put, List.setIfInBounds_toArray, List.set_cons_zero, List.set_cons_succ])
        refine wpAnyH_one (by kernel_rfl) (fun _ _ _ _ _ h => h) (by assumption) 20 8 (some 76) ?_ _ (by rfl) (by rfl) (by kernel_rfl) (by rfl) ?_ ?_
        rotate_left 1
        · intro W hSw
          (try dsimp only at hSw)
          go_simp
          (try with_reducible rfl)
        (try simp only [Act.put, List.setIfInBounds_toArray, List.set_cons_zero, List.set_cons_succ])
        refine wpAnyH_one (by kernel_rfl) (fun _ _ _ _ _ h => h) (by assumption) 21 7 (some 77) ?_ _ (by rfl) (by rfl) (by kernel_rfl) (by rfl) ?_ ?_
        rotate_left 1
        · intro W hSw
          (try dsimp only at hSw)
          go_simp
          (try with_reducible rfl)
        (try simp only [Act.put, List.setIfInBounds_toArray, List.set_cons_zero, List.set_cons_succ])
        refine wpAnyH_one (by kernel_rfl) (fun _ _ _ _ _ h => h) (by assumption) 22 6 (some 78) ?_ _ (by rfl) (by rfl) (by kernel_rfl) (by rfl) ?_ ?_
        rotate_left 1
        · intro W hSw
          (try dsimp only at hSw)
          go_simp
          (try with_reducible rfl)
        (try simp only [Act.put, List.setIfInBounds_toArray, List.set_cons_zero, List.set_cons_succ])
        refine wpAnyH_one (by kernel_rfl) (fun _ _ _ _ _ h => h) (by assumption) 23 5 (some 79) ?_ _ (by rfl) (by rfl) (by kernel_rfl) (by rfl) ?_ ?_
        rotate_left 1
        · intro W hSw
          (try dsimp only at hSw)
          go_simp
          (try with_reducible rfl)
        (try simp only [Act.put, List.setIfInBounds_toArray, List.set_cons_zero, List.set_cons_succ])
        refine wpAnyH_ready (rs := [24]) (by kernel_rfl) (by simp) (AllReadyH.cons rfl (fun K hK => ?_) AllReadyH.nil)
        go_simp
        refine (SC.out _ (RD.out.below hHeld.1)).mono ?_
        rintro e wx ⟨rfl, bb⟩
        (try go_wp2_with fail)
        refine hK.out _ _ ?_ (fun hHeld => ?_)
        · (try dsimp only)
          exact KA.out _ (below_then hHeld.1 bb)
        clear hK K
        (try simp only [Act.put, List.setIfInBounds_toArray, List.set_cons_zero, List.set_cons_succ])
        refine wpAnyH_one (by kernel_rfl) (fun _ _ _ _ _ h => h) (by assumption) 25 3 (some 81) ?_ _ (by rfl) (by rfl) (by kernel_rfl) (by rfl) ?_ ?_
        rotate_left 1
        · intro W hSw
          (try dsimp only at hSw)
          go_simp
          (try with_reducible rfl)
        (try simp only [Act.put, List.setIfInBounds_toArray, List.set_cons_zero, List.set_cons_succ])
        refine wpAnyH_one (by kernel_rfl) (fun _ _ _ _ _ h => h) (by assumption) 26 2 (some 82) ?_ _ (by rfl) (by rfl) (by kernel_rfl) (by rfl) ?_ ?_
        rotate_left 1
        · intro W hSw
          (try dsimp only at hSw)
          go_simp
          (try with_reducible rfl)
        (try simp only [Act.put, List.setIfInBounds_toArray, List.set_cons_zero, List.set_cons_succ])
        refine wpAnyH_one (by kernel_rfl) (fun _ _ _ _ _ h => h) (by assumption) 27 1 (some 83) ?_ _ (by rfl) (by rfl) (by kernel_rfl) (by rfl) ?_ ?_
        rotate_left 1
        · intro W hSw
          (try dsimp only at hSw)
          go_simp
          (try with_reducible rfl)
        (try simp only [Act.put, List.setIfInBounds_toArray, List.set_cons_zero, List.set_cons_succ])
        refine wpAnyH_one (by kernel_rfl) (fun _ _ _ _ _ h => h) (by assumption) 28 0 (some 6) ?_ _ (by rfl) (by rfl) (by kernel_rfl) (by rfl) ?_ ?_
        rotate_left 1
        · intro W hSw
          (try dsimp only at hSw)
          go_simp
          (try with_reducible rfl)
        (try simp only [Act.put, List.setIfInBounds_toArray, List.set_cons_zero, List.set_cons_succ])
        refine wpAnyH_done (by kernel_rfl) ?_ _
        refine NoPanic.normal ?_
        (try simp only [Act.put, List.setIfInBounds_toArray, List.set_cons_zero, List.set_cons_succ])
        have HZ := Lib.hid (below_then HB.out hHeld.1)
        go_wp2_with fail
        go_ret
        exact ⟨rfl, HZ.out⟩
  | false =>
    have FW : Hid (∀ W : World, Calls Try.prog 17 #[cellV k u (.slice A n c)] W fun e w' => e = .returned (.bool true) ∧ Below W.heap.size W w') := by
      intro W
      have := few9_any k u A n c W
      rwa [decide_eq_true (by omega)] at this
    have hn6 : n ≤ 60 := hn
    obtain ⟨Lx, hLx⟩ : ∃ L, Hid (putB l ⟨z, ⟨dx, dy⟩⟩ = L) := ⟨_, rfl⟩
    obtain ⟨Nx, hNNx⟩ : ∃ N, Hid (Lx.length = N) := ⟨_, rfl⟩
    have bx : Nx ≤ 61 := by
      have := putB_len l ⟨z, ⟨dx, dy⟩⟩
      rw [hLx.out, hNNx.out, HLN.out] at this; omega
    have BNS := Lib.hid (And.intro hn6 bx)
    obtain ⟨Sc, hSc⟩ : ∃ N, Hid ((numsB l).length = N) := ⟨_, rfl⟩
    obtain ⟨Sx, hSx⟩ : ∃ N, Hid ((numsB Lx).length = N) := ⟨_, rfl⟩
    have hcx : Sx = Sc + 1 := by
      have := counts_put l z ⟨dx, dy⟩
      rw [hLx.out, hb.out, hSc.out, hSx.out] at this
      simpa using this
    have hsb : Sc ≤ 60 := by have := numsB_le l; rw [hSc.out, HLN.out] at this; omega
    have HCX := Lib.hid (And.intro hcx hsb)
    clear hcx hsb bx hn6
    have H0 : Hid (∀ W : World, RdP W A n c l → Calls Try.prog 23 #[cellV k u (.slice A n c), .int .i64 z] W fun e w' => e = .returned (.bool false) ∧ Below W.heap.size W w') := by
      intro W hW
      have := hasB_any k u A n c l z W hW
      rw [hb.out] at this
      exact this
    have P1 : Hid (∀ W : World, RdP W A n c l → Calls Try.prog 22 #[cellV k u (.slice A n c), .int .i64 z, .agg #[.int .i64 dx, .int .i64 dy]] W fun e w' => ∃ A' c', e = .returned (cellV k u (.slice A' Nx c')) ∧ RdP w' A' Nx c' Lx ∧ Below W.heap.size W w') := by
      intro W hW
      have := putB_any k u A n c l z ⟨dx, dy⟩ W hW (by have := BNS.out; omega)
      rw [hLx.out, hNNx.out] at this
      exact this
    have SC : Hid (∀ W : World, RdP W A n c l → Calls Try.prog 30 #[cellV k u (.slice A n c)] W fun e w' => e = .returned (.agg #[.int .i64 1, .int .i64 (Sc : Nat), .string ⟨#[]⟩]) ∧ Below W.heap.size W w') := by
      intro W hW
      have := showB_any k u A n c l W hW (by have := BNS.out; omega)
      rw [hSc.out] at this
      exact this
    have SX : Hid (∀ (A1 : Option Addr) (d1 : Nat) (W : World), RdP W A1 Nx d1 Lx → Calls Try.prog 30 #[cellV k u (.slice A1 Nx d1)] W fun e w' => e = .returned (.agg #[.int .i64 1, .int .i64 (Sx : Nat), .string ⟨#[]⟩]) ∧ Below W.heap.size W w') := by
      intro A1 d1 W hW
      have := showB_any k u A1 Nx d1 Lx W hW (by have := BNS.out; omega)
      rw [hSx.out] at this
      exact this
    have HOK : Hid (∀ p ∈ l, okB p = true) := (rightS_iff.1 hr.out).2.1
    clear hn hr
    obtain ⟨g, hg⟩ : ∃ g, g = w.heap.size := ⟨_, rfl⟩
    obtain ⟨w0, hw0⟩ : ∃ w1, w1 = ((w.alloc (cellRow k u (.slice A n c))).alloc (dotRow ⟨dx, dy⟩)) := ⟨_, rfl⟩
    have HW0 := Lib.hid hw0; have HG := Lib.hid hg
    have hat : ∀ (w : World) (o : Obj) (g : Nat), w.heap.size = g → (w.alloc o).heap[g]? = some o := fun w o g h => by subst h; exact heap_alloc_new _ _
    have bb : Below w.heap.size w w0 := by rw [hw0]; exact below_new (below_new (Below.refl _ _) _) _
    have RX : Hid (w0.heap[g]? = some (cellRow k u (.slice A n c))) := by
      show _ = _
      rw [hw0, hg]
      rw [Below.heap_alloc _ _ _ (by simp only [World.size_alloc]; omega)]
      exact hat _ _ _ rfl
    have RQ : Hid (w0.heap[g + 1]? = some (dotRow ⟨dx, dy⟩)) := by
      show _ = _
      rw [hw0, hg]
      skip
      exact hat _ _ _ (by simp only [World.size_alloc])
    replace RD := Lib.hid (RD.out.below bb)
    replace HB := Lib.hid (below_then HB.out bb)
    clear bb hg hw0 hat
    go_enter Try.func9, Try.ntmps9
    go_upto_region 1 with fail
    rw [← HG.out]
    rw [show ((w.alloc (Obj.cells #[Value.int .i64 k, .int .i64 u.k, .int .i64 u.n, .string u.s, .slice A n c] 26)).alloc (Obj.cells #[Value.int .i64 dx, .int .i64 dy] 28)) = w0 from HW0.out.symm]
    clear HW0
    obtain ⟨RX0, RX1, RX2, RX3, RX4⟩ := cell_row5 RX.out
    go_wp2_with fail
    refine (FW.out _).mono ?_
    rintro e v1 ⟨rfl, bb⟩
    replace RX := Lib.hid (row_below RX.out bb)
    replace RQ := Lib.hid (row_below RQ.out bb)
    replace RD := Lib.hid (RD.out.below bb)
    replace HB := Lib.hid (below_then HB.out bb)
    clear bb
    clear RX0 RX1 RX2 RX3 RX4
    obtain ⟨RX0, RX1, RX2, RX3, RX4⟩ := cell_row5 RX.out
    go_wp2_with fail
    refine (CR.out _ RD.out).mono ?_
    rintro e v2 ⟨rfl, bb⟩
    replace RX := Lib.hid (row_below RX.out bb)
    replace RQ := Lib.hid (row_below RQ.out bb)
    replace RD := Lib.hid (RD.out.below bb)
    replace HB := Lib.hid (below_then HB.out bb)
    clear bb
    clear RX0 RX1 RX2 RX3 RX4
    obtain ⟨RX0, RX1, RX2, RX3, RX4⟩ := cell_row5 RX.out
    go_wp2_with fail
    refine (H0.out _ RD.out).mono ?_
    rintro e v3 ⟨rfl, bb⟩
    replace RX := Lib.hid (row_below RX.out bb)
    replace RQ := Lib.hid (row_below RQ.out bb)
    replace RD := Lib.hid (RD.out.below bb)
    replace HB := Lib.hid (below_then HB.out bb)
    clear bb
    clear RX0 RX1 RX2 RX3 RX4
    obtain ⟨RX0, RX1, RX2, RX3, RX4⟩ := cell_row5 RX.out
    clear H0 FW CR
    go_wp2_with fail
    go_loopw [8, 28] (fun s i wr => ∃ (j : Nat) (As : Option Addr) (na ca : Nat) (kn : List Int), j ≤ n ∧ i = .int .i64 j ∧ s = .slice As na ca ∧ Hid (Rd wr As na ca (vals .i64 kn)) ∧ Hid (AllK kn (l.take j)) ∧ Hid (Below v3.heap.size v3 wr)) (fun _ i _ => n - (intOf i).toNat)
    case atStart => exact ⟨0, none, 0, 0, [], Nat.zero_le _, rfl, rfl, Rd.nil_ _, allK_nil, Below.refl _ _⟩
    case round =>
      clear RX0 RX1 RX2 RX3 RX4
      obtain ⟨j, As, na, ca, kn, hj, rfl, rfl, hrk, hall, hbel⟩ := hrel
      have RK := hrk; clear hrk
      replace RX := Lib.hid (row_below RX.out hbel.out); replace RQ := Lib.hid (row_below RQ.out hbel.out)
      replace HB := Lib.hid (below_then HB.out hbel.out)
      by_cases hlt : j < n
      · obtain ⟨b', o, x, rfl, hb', hx, hld⟩ := RD.out.part hlt
        obtain ⟨e0, e1, e2, e3, e4, e5, e6, e7, e8, e9, e10⟩ := hld wr hbel.out
        have hstep := Lib.hid (allK_step hall.out hx (HOK.out x (List.mem_of_getElem? hx)))
        have HX := Lib.hid hx
        have HBV := Lib.hid hbel.out
        clear hx hld hbel hall
        obtain ⟨v41, hw⟩ : ∃ w', w' = wr.alloc (partCells x) := ⟨_, rfl⟩
        have RP : Hid (v41.heap[wr.heap.size]? = some (partCells x)) := by rw [hw]; exact heap_alloc_new _ _
        have bb : Below wr.heap.size wr v41 := by rw [hw]; exact below_new (Below.refl _ _) _
        replace hw := Lib.hid hw
        replace RX := Lib.hid (row_below RX.out bb)
        replace RQ := Lib.hid (row_below RQ.out bb)
        replace RK := Lib.hid (RK.out.below bb)
        replace HB := Lib.hid (below_then HB.out bb)
        replace HBV := Lib.hid (below_then HBV.out bb)
        clear bb
        go_upto_region 10 with fail
        rw [show wr.alloc (Obj.cells #[Value.int .i64 x.v.k, .int .i64 x.v.n, .string x.v.s, .int .i64 x.d.d, .int .i64 x.d.s, .int .i64 x.i, .int .i64 x.t, .int .i64 x.a.d, .int .i64 x.a.s, .int .i64 x.j, .bool x.g] 30) = v41 from hw.out.symm]
        clear hw
        generalize wr.heap.size = gRP at RP ⊢
        clear e0 e1 e2 e3 e4 e5 e6 e7 e8 e9 e10
        have hna : na ≤ 4294967296 := by have h1 := hstep.out.1; have h2 := RK.out.len; simp at h2; omega
        obtain ⟨q, hq⟩ : ∃ q, Hid (ofV kn x.d.d = q) := ⟨_, rfl⟩
        have OF : Hid (∀ W : World, Rd W As na ca (vals .i64 kn) → Calls Try.prog 28 #[.slice As na ca, .int .i64 x.d.d] W fun e w' => e = .returned (.int .i64 q) ∧ Below W.heap.size W w') := by
          intro W hW; rw [← hq.out]; exact (refOf_any As na ca kn x.d.d W hW).mono fun e w' h => ⟨h.1, by rw [h.2]; exact Below.refl _ _⟩
        have ST : Hid (∀ (v : Int) (W : World), Rd W As na ca (vals .i64 kn) → Calls Try.prog 29 #[.slice As na ca, .int .i64 x.d.d, .int .i64 v] W fun e w' => ∃ A' n' c', e = .returned (.slice A' n' c') ∧ Rd w' A' n' c' (vals .i64 (setV kn x.d.d v)) ∧ Below W.heap.size W w') := fun v W hW => refSet_any As na ca kn x.d.d v W hW hna
        have hs2 := Lib.hid hstep.out.2
        rw [hq.out] at hs2
        clear hna hstep hq
        by_cases hmx : q < x.d.s
        · obtain ⟨RP0, RP1, RP2, RP3, RP4, RP5, RP6, RP7, RP8, RP9, RP10⟩ := part_row RP.out

          have KA : Hid (∀ W, Below v41.heap.size v41 W → (Below v41.heap.size v41 W ∧ W.cell? ⟨gRP, 0, none⟩ = some (.int .i64 x.v.k) ∧ W.cell? ⟨gRP, 1, none⟩ = some (.int .i64 x.v.n) ∧ W.cell? ⟨gRP, 2, none⟩ = some (.string x.v.s) ∧ W.cell? ⟨gRP, 3, none⟩ = some (.int .i64 x.d.d) ∧ W.cell? ⟨gRP, 4, none⟩ = some (.int .i64 x.d.s) ∧ W.cell? ⟨gRP, 5, none⟩ = some (.int .i64 x.i) ∧ W.cell? ⟨gRP, 6, none⟩ = some (.int .i64 x.t) ∧ W.cell? ⟨gRP, 7, none⟩ = some (.int .i64 x.a.d) ∧ W.cell? ⟨gRP, 8, none⟩ = some (.int .i64 x.a.s) ∧ W.cell? ⟨gRP, 9, none⟩ = some (.int .i64 x.j) ∧ W.cell? ⟨gRP, 10, none⟩ = some (.bool x.g))) := by
            intro W hb
            have hc : ∀ (p : Addr) (y : Value), v41.cell? p = some y → W.cell? p = some y := fun p y h2 => (hb.cell (World.block_lt_of_cell? _ _ h2)).trans h2
            exact ⟨hb, hc _ _ RP0, hc _ _ RP1, hc _ _ RP2, hc _ _ RP3, hc _ _ RP4, hc _ _ RP5, hc _ _ RP6, hc _ _ RP7, hc _ _ RP8, hc _ _ RP9, hc _ _ RP10⟩
          clear RP0 RP1 RP2 RP3 RP4 RP5 RP6 RP7 RP8 RP9 RP10
          refine wp_region_noPanic ?_
          refine wp_region_held_drew (S := (fun W => Below v41.heap.size v41 W ∧ W.cell? ⟨gRP, 0, none⟩ = some (.int .i64 x.v.k) ∧ W.cell? ⟨gRP, 1, none⟩ = some (.int .i64 x.v.n) ∧ W.cell? ⟨gRP, 2, none⟩ = some (.string x.v.s) ∧ W.cell? ⟨gRP, 3, none⟩ = some (.int .i64 x.d.d) ∧ W.cell? ⟨gRP, 4, none⟩ = some (.int .i64 x.d.s) ∧ W.cell? ⟨gRP, 5, none⟩ = some (.int .i64 x.i) ∧ W.cell? ⟨gRP, 6, none⟩ = some (.int .i64 x.t) ∧ W.cell? ⟨gRP, 7, none⟩ = some (.int .i64 x.a.d) ∧ W.cell? ⟨gRP, 8, none⟩ = some (.int .i64 x.a.s) ∧ W.cell? ⟨gRP, 9, none⟩ = some (.int .i64 x.j) ∧ W.cell? ⟨gRP, 10, none⟩ = some (.bool x.g))) (by kernel_rfl) ?_ (fun hHeld => ?_)
          · exact KA.out _ ((Below.refl _ _).drew)
          refine wpAnyH_one (by kernel_rfl) (fun _ _ _ _ _ h => h) (by assumption) 0 14 (some 32) ?_ _ (by rfl) (by rfl) (by kernel_rfl) (by rfl) ?_ ?_
          rotate_left 1
          · intro W hSw
            (try dsimp only at hSw)
            go_simp
            (try with_reducible rfl)
          (try simp only [Act.put, List.setIfInBounds_toArray, List.set_cons_zero, List.set_cons_succ])
          refine wpAnyH_one (by kernel_rfl) (fun _ _ _ _ _ h => h) (by assumption) 1 13 (some 33) ?_ _ (by rfl) (by rfl) (by kernel_rfl) (by rfl) ?_ ?_
          rotate_left 1
          · intro W hSw
            (try dsimp only at hSw)
            go_simp
            (try with_reducible rfl)
          (try simp only [Act.put, List.setIfInBounds_toArray, List.set_cons_zero, List.set_cons_succ])
          refine wpAnyH_one (by kernel_rfl) (fun _ _ _ _ _ h => h) (by assumption) 2 12 (some 34) ?_ _ (by rfl) (by rfl) (by kernel_rfl) (by rfl) ?_ ?_
          rotate_left 1
          · intro W hSw
            (try dsimp only at hSw)
            go_simp
            (try with_reducible rfl)
          (try simp only [Act.put, List.setIfInBounds_toArray, List.set_cons_zero, List.set_cons_succ])
          refine wpAnyH_one (by kernel_rfl) (fun _ _ _ _ _ h => h) (by assumption) 3 11 (some 35) ?_ _ (by rfl) (by rfl) (by kernel_rfl) (by rfl) ?_ ?_
          rotate_left 1
          · intro W hSw
            (try dsimp only at hSw)
            go_simp
            (try with_reducible rfl)
          (try simp only [Act.put, List.setIfInBounds_toArray, List.set_cons_zero, List.set_cons_succ])
          refine wpAnyH_one (by kernel_rfl) (fun _ _ _ _ _ h => h) (by assumption) 4 10 (some 36) ?_ _ (by rfl) (by rfl) (by kernel_rfl) (by rfl) ?_ ?_
          rotate_left 1
          · intro W hSw
            (try dsimp only at hSw)
            go_simp
            (try with_reducible rfl)
          (try simp only [Act.put, List.setIfInBounds_toArray, List.set_cons_zero, List.set_cons_succ])
          refine wpAnyH_one (by kernel_rfl) (fun _ _ _ _ _ h => h) (by assumption) 5 9 (some 37) ?_ _ (by rfl) (by rfl) (by kernel_rfl) (by rfl) ?_ ?_
          rotate_left 1
          · intro W hSw
            (try dsimp only at hSw)
            go_simp
            (try with_reducible rfl)
          (try simp only [Act.put, List.setIfInBounds_toArray, List.set_cons_zero, List.set_cons_succ])
          refine wpAnyH_one (by kernel_rfl) (fun _ _ _ _ _ h => h) (by assumption) 6 8 (some 38) ?_ _ (by rfl) (by rfl) (by kernel_rfl) (by rfl) ?_ ?_
          rotate_left 1
          · intro W hSw
            (try dsimp only at hSw)
            go_simp
            (try with_reducible rfl)
          (try simp only [Act.put, List.setIfInBounds_toArray, List.set_cons_zero, List.set_cons_succ])
          refine wpAnyH_one (by kernel_rfl) (fun _ _ _ _ _ h => h) (by assumption) 7 7 (some 39) ?_ _ (by rfl) (by rfl) (by kernel_rfl) (by rfl) ?_ ?_
          rotate_left 1
          · intro W hSw
            (try dsimp only at hSw)
            go_simp
            (try with_reducible rfl)
          (try simp only [Act.put, List.setIfInBounds_toArray, List.set_cons_zero, List.set_cons_succ])
          refine wpAnyH_one (by kernel_rfl) (fun _ _ _ _ _ h => h) (by assumption) 9 6 (some 41) ?_ _ (by rfl) (by rfl) (by kernel_rfl) (by rfl) ?_ ?_
          rotate_left 1
          · intro W hSw
            (try dsimp only at hSw)
            go_simp
            (try with_reducible rfl)
          (try simp only [Act.put, List.setIfInBounds_toArray, List.set_cons_zero, List.set_cons_succ])
          refine wpAnyH_one (by kernel_rfl) (fun _ _ _ _ _ h => h) (by assumption) 10 5 (some 42) ?_ _ (by rfl) (by rfl) (by kernel_rfl) (by rfl) ?_ ?_
          rotate_left 1
          · intro W hSw
            (try dsimp only at hSw)
            go_simp
            (try with_reducible rfl)
          (try simp only [Act.put, List.setIfInBounds_toArray, List.set_cons_zero, List.set_cons_succ])
          refine wpAnyH_one (by kernel_rfl) (fun _ _ _ _ _ h => h) (by assumption) 11 4 (some 43) ?_ _ (by rfl) (by rfl) (by kernel_rfl) (by rfl) ?_ ?_
          rotate_left 1
          · intro W hSw
            (try dsimp only at hSw)
            go_simp
            (try with_reducible rfl)
          (try simp only [Act.put, List.setIfInBounds_toArray, List.set_cons_zero, List.set_cons_succ])
          refine wpAnyH_ready (rs := [8]) (by kernel_rfl) (by simp) (AllReadyH.cons rfl (fun K hK => ?_) AllReadyH.nil)
          go_simp
          refine (OF.out _ (RK.out.below hHeld.1)).mono ?_
          rintro e wx ⟨rfl, bb⟩
          (try go_wp2_with fail)
          refine hK.out _ _ ?_ (fun hHeld => ?_)
          · (try dsimp only)
            exact KA.out _ (below_then hHeld.1 bb)
          clear hK K
          (try simp only [Act.put, List.setIfInBounds_toArray, List.set_cons_zero, List.set_cons_succ])
          refine wpAnyH_one (by kernel_rfl) (fun _ _ _ _ _ h => h) (by assumption) 12 2 (some 44) ?_ _ (by rfl) (by rfl) (by kernel_rfl) (by rfl) ?_ ?_
          rotate_left 1
          · intro W hSw
            (try dsimp only at hSw)
            go_simp
            (try with_reducible rfl)
          (try simp only [Act.put, List.setIfInBounds_toArray, List.set_cons_zero, List.set_cons_succ])
          refine wpAnyH_ready (rs := [13]) (by kernel_rfl) (by simp) (AllReadyH.cons rfl (fun K hK => ?_) AllReadyH.nil)
          go_simp
          refine (ST.out _ _ (RK.out.below hHeld.1)).mono ?_
          rintro e wx ⟨A9, n9, c9, rfl, r9, bb⟩
          (try go_wp2_with fail)
          refine hK.out _ _ ?_ (fun hHeld => ?_)
          · (try dsimp only)
            exact KA.out _ (below_then hHeld.1 bb)
          clear hK K
          (try simp only [Act.put, List.setIfInBounds_toArray, List.set_cons_zero, List.set_cons_succ])
          refine wpAnyH_one (by kernel_rfl) (fun _ _ _ _ _ h => h) (by assumption) 14 0 (some 8) ?_ _ (by rfl) (by rfl) (by kernel_rfl) (by rfl) ?_ ?_
          rotate_left 1
          · intro W hSw
            (try dsimp only at hSw)
            go_simp
            (try with_reducible rfl)
          (try simp only [Act.put, List.setIfInBounds_toArray, List.set_cons_zero, List.set_cons_succ])
          refine wpAnyH_done (by kernel_rfl) ?_ _
          refine NoPanic.normal ?_
          (try simp only [Act.put, List.setIfInBounds_toArray, List.set_cons_zero, List.set_cons_succ])
          have HBV2 := Lib.hid (below_then HBV.out hHeld.1)
          have R9 := Lib.hid r9
          clear r9
          go_wp2_with fail
          exact ⟨⟨j + 1, A9, n9, c9, _, by omega, by go_num, rfl, R9, by show AllK _ _; exact (by have := hs2.out; rwa [Int.max_eq_right (by omega)] at this), HBV2⟩, by simp [intOf]; omega⟩
        · obtain ⟨RP0, RP1, RP2, RP3, RP4, RP5, RP6, RP7, RP8, RP9, RP10⟩ := part_row RP.out

          have KA : Hid (∀ W, Below v41.heap.size v41 W → (Below v41.heap.size v41 W ∧ W.cell? ⟨gRP, 0, none⟩ = some (.int .i64 x.v.k) ∧ W.cell? ⟨gRP, 1, none⟩ = some (.int .i64 x.v.n) ∧ W.cell? ⟨gRP, 2, none⟩ = some (.string x.v.s) ∧ W.cell? ⟨gRP, 3, none⟩ = some (.int .i64 x.d.d) ∧ W.cell? ⟨gRP, 4, none⟩ = some (.int .i64 x.d.s) ∧ W.cell? ⟨gRP, 5, none⟩ = some (.int .i64 x.i) ∧ W.cell? ⟨gRP, 6, none⟩ = some (.int .i64 x.t) ∧ W.cell? ⟨gRP, 7, none⟩ = some (.int .i64 x.a.d) ∧ W.cell? ⟨gRP, 8, none⟩ = some (.int .i64 x.a.s) ∧ W.cell? ⟨gRP, 9, none⟩ = some (.int .i64 x.j) ∧ W.cell? ⟨gRP, 10, none⟩ = some (.bool x.g))) := by
            intro W hb
            have hc : ∀ (p : Addr) (y : Value), v41.cell? p = some y → W.cell? p = some y := fun p y h2 => (hb.cell (World.block_lt_of_cell? _ _ h2)).trans h2
            exact ⟨hb, hc _ _ RP0, hc _ _ RP1, hc _ _ RP2, hc _ _ RP3, hc _ _ RP4, hc _ _ RP5, hc _ _ RP6, hc _ _ RP7, hc _ _ RP8, hc _ _ RP9, hc _ _ RP10⟩
          clear RP0 RP1 RP2 RP3 RP4 RP5 RP6 RP7 RP8 RP9 RP10
          refine wp_region_noPanic ?_
          refine wp_region_held_drew (S := (fun W => Below v41.heap.size v41 W ∧ W.cell? ⟨gRP, 0, none⟩ = some (.int .i64 x.v.k) ∧ W.cell? ⟨gRP, 1, none⟩ = some (.int .i64 x.v.n) ∧ W.cell? ⟨gRP, 2, none⟩ = some (.string x.v.s) ∧ W.cell? ⟨gRP, 3, none⟩ = some (.int .i64 x.d.d) ∧ W.cell? ⟨gRP, 4, none⟩ = some (.int .i64 x.d.s) ∧ W.cell? ⟨gRP, 5, none⟩ = some (.int .i64 x.i) ∧ W.cell? ⟨gRP, 6, none⟩ = some (.int .i64 x.t) ∧ W.cell? ⟨gRP, 7, none⟩ = some (.int .i64 x.a.d) ∧ W.cell? ⟨gRP, 8, none⟩ = some (.int .i64 x.a.s) ∧ W.cell? ⟨gRP, 9, none⟩ = some (.int .i64 x.j) ∧ W.cell? ⟨gRP, 10, none⟩ = some (.bool x.g))) (by kernel_rfl) ?_ (fun hHeld => ?_)
          · exact KA.out _ ((Below.refl _ _).drew)
          refine wpAnyH_one (by kernel_rfl) (fun _ _ _ _ _ h => h) (by assumption) 0 14 (some 32) ?_ _ (by rfl) (by rfl) (by kernel_rfl) (by rfl) ?_ ?_
          rotate_left 1
          · intro W hSw
            (try dsimp only at hSw)
            go_simp
            (try with_reducible rfl)
          (try simp only [Act.put, List.setIfInBounds_toArray, List.set_cons_zero, List.set_cons_succ])
          refine wpAnyH_one (by kernel_rfl) (fun _ _ _ _ _ h => h) (by assumption) 1 13 (some 33) ?_ _ (by rfl) (by rfl) (by kernel_rfl) (by rfl) ?_ ?_
          rotate_left 1
          · intro W hSw
            (try dsimp only at hSw)
            go_simp
            (try with_reducible rfl)
          (try simp only [Act.put, List.setIfInBounds_toArray, List.set_cons_zero, List.set_cons_succ])
          refine wpAnyH_one (by kernel_rfl) (fun _ _ _ _ _ h => h) (by assumption) 2 12 (some 34) ?_ _ (by rfl) (by rfl) (by kernel_rfl) (by rfl) ?_ ?_
          rotate_left 1
          · intro W hSw
            (try dsimp only at hSw)
            go_simp
            (try with_reducible rfl)
          (try simp only [Act.put, List.setIfInBounds_toArray, List.set_cons_zero, List.set_cons_succ])
          refine wpAnyH_one (by kernel_rfl) (fun _ _ _ _ _ h => h) (by assumption) 3 11 (some 35) ?_ _ (by rfl) (by rfl) (by kernel_rfl) (by rfl) ?_ ?_
          rotate_left 1
          · intro W hSw
            (try dsimp only at hSw)
            go_simp
            (try with_reducible rfl)
          (try simp only [Act.put, List.setIfInBounds_toArray, List.set_cons_zero, List.set_cons_succ])
          refine wpAnyH_one (by kernel_rfl) (fun _ _ _ _ _ h => h) (by assumption) 4 10 (some 36) ?_ _ (by rfl) (by rfl) (by kernel_rfl) (by rfl) ?_ ?_
          rotate_left 1
          · intro W hSw
            (try dsimp only at hSw)
            go_simp
            (try with_reducible rfl)
          (try simp only [Act.put, List.setIfInBounds_toArray, List.set_cons_zero, List.set_cons_succ])
          refine wpAnyH_one (by kernel_rfl) (fun _ _ _ _ _ h => h) (by assumption) 5 9 (some 37) ?_ _ (by rfl) (by rfl) (by kernel_rfl) (by rfl) ?_ ?_
          rotate_left 1
          · intro W hSw
            (try dsimp only at hSw)
            go_simp
            (try with_reducible rfl)
          (try simp only [Act.put, List.setIfInBounds_toArray, List.set_cons_zero, List.set_cons_succ])
          refine wpAnyH_one (by kernel_rfl) (fun _ _ _ _ _ h => h) (by assumption) 6 8 (some 38) ?_ _ (by rfl) (by rfl) (by kernel_rfl) (by rfl) ?_ ?_
          rotate_left 1
          · intro W hSw
            (try dsimp only at hSw)
            go_simp
            (try with_reducible rfl)
          (try simp only [Act.put, List.setIfInBounds_toArray, List.set_cons_zero, List.set_cons_succ])
          refine wpAnyH_one (by kernel_rfl) (fun _ _ _ _ _ h => h) (by assumption) 7 7 (some 39) ?_ _ (by rfl) (by rfl) (by kernel_rfl) (by rfl) ?_ ?_
          rotate_left 1
          · intro W hSw
            (try dsimp only at hSw)
            go_simp
            (try with_reducible rfl)
          (try simp only [Act.put, List.setIfInBounds_toArray, List.set_cons_zero, List.set_cons_succ])
          refine wpAnyH_one (by kernel_rfl) (fun _ _ _ _ _ h => h) (by assumption) 9 6 (some 41) ?_ _ (by rfl) (by rfl) (by kernel_rfl) (by rfl) ?_ ?_
          rotate_left 1
          · intro W hSw
            (try dsimp only at hSw)
            go_simp
            (try with_reducible rfl)
          (try simp only [Act.put, List.setIfInBounds_toArray, List.set_cons_zero, List.set_cons_succ])
          refine wpAnyH_one (by kernel_rfl) (fun _ _ _ _ _ h => h) (by assumption) 10 5 (some 42) ?_ _ (by rfl) (by rfl) (by kernel_rfl) (by rfl) ?_ ?_
          rotate_left 1
          · intro W hSw
            (try dsimp only at hSw)
            go_simp
            (try with_reducible rfl)
          (try simp only [Act.put, List.setIfInBounds_toArray, List.set_cons_zero, List.set_cons_succ])
          refine wpAnyH_one (by kernel_rfl) (fun _ _ _ _ _ h => h) (by assumption) 11 4 (some 43) ?_ _ (by rfl) (by rfl) (by kernel_rfl) (by rfl) ?_ ?_
          rotate_left 1
          · intro W hSw
            (try dsimp only at hSw)
            go_simp
            (try with_reducible rfl)
          (try simp only [Act.put, List.setIfInBounds_toArray, List.set_cons_zero, List.set_cons_succ])
          refine wpAnyH_ready (rs := [8]) (by kernel_rfl) (by simp) (AllReadyH.cons rfl (fun K hK => ?_) AllReadyH.nil)
          go_simp
          refine (OF.out _ (RK.out.below hHeld.1)).mono ?_
          rintro e wx ⟨rfl, bb⟩
          (try go_wp2_with fail)
          refine hK.out _ _ ?_ (fun hHeld => ?_)
          · (try dsimp only)
            exact KA.out _ (below_then hHeld.1 bb)
          clear hK K
          (try simp only [Act.put, List.setIfInBounds_toArray, List.set_cons_zero, List.set_cons_succ])
          refine wpAnyH_one (by kernel_rfl) (fun _ _ _ _ _ h => h) (by assumption) 12 2 (some 44) ?_ _ (by rfl) (by rfl) (by kernel_rfl) (by rfl) ?_ ?_
          rotate_left 1
          · intro W hSw
            (try dsimp only at hSw)
            go_simp
            (try with_reducible rfl)
          (try simp only [Act.put, List.setIfInBounds_toArray, List.set_cons_zero, List.set_cons_succ])
          refine wpAnyH_ready (rs := [13]) (by kernel_rfl) (by simp) (AllReadyH.cons rfl (fun K hK => ?_) AllReadyH.nil)
          go_simp
          refine (ST.out _ _ (RK.out.below hHeld.1)).mono ?_
          rintro e wx ⟨A9, n9, c9, rfl, r9, bb⟩
          (try go_wp2_with fail)
          refine hK.out _ _ ?_ (fun hHeld => ?_)
          · (try dsimp only)
            exact KA.out _ (below_then hHeld.1 bb)
          clear hK K
          (try simp only [Act.put, List.setIfInBounds_toArray, List.set_cons_zero, List.set_cons_succ])
          refine wpAnyH_one (by kernel_rfl) (fun _ _ _ _ _ h => h) (by assumption) 14 0 (some 8) ?_ _ (by rfl) (by rfl) (by kernel_rfl) (by rfl) ?_ ?_
          rotate_left 1
          · intro W hSw
            (try dsimp only at hSw)
            go_simp
            (try with_reducible rfl)
          (try simp only [Act.put, List.setIfInBounds_toArray, List.set_cons_zero, List.set_cons_succ])
          refine wpAnyH_done (by kernel_rfl) ?_ _
          refine NoPanic.normal ?_
          (try simp only [Act.put, List.setIfInBounds_toArray, List.set_cons_zero, List.set_cons_succ])
          have HBV2 := Lib.hid (below_then HBV.out hHeld.1)
          have R9 := Lib.hid r9
          clear r9
          go_wp2_with fail
          exact ⟨⟨j + 1, A9, n9, c9, _, by omega, by go_num, rfl, R9, by show AllK _ _; exact (by have := hs2.out; rwa [Int.max_eq_left (by omega)] at this), HBV2⟩, by simp [intOf]; omega⟩
      · have hK : Hid (∀ p ∈ l, knowsV kn p.d = true) := by
          have := hall.out.2
          rwa [List.take_of_length_le (by rw [HLN.out]; omega)] at this
        replace RD := Lib.hid (RD.out.below hbel.out)
        obtain ⟨Ly, hLy⟩ : ∃ L, Hid (takeB Lx z ⟨dx, dy⟩ kn = L) := ⟨_, rfl⟩
        obtain ⟨Ny, hNNy⟩ : ∃ N, Hid (Ly.length = N) := ⟨_, rfl⟩
        obtain ⟨Sy, hSy⟩ : ∃ N, Hid ((numsB Ly).length = N) := ⟨_, rfl⟩
        have hxy : Sx = Sy + 1 := by
          have := counts_take (n := z) (d := ⟨dx, dy⟩) hK.out
          rw [hLx.out, hLy.out, hSx.out, hSy.out] at this
          exact this
        have by_ : Ny ≤ 61 := by
          have := List.length_filter_le (leavesB z ⟨dx, dy⟩ kn) Lx
          rw [show Lx.filter (leavesB z ⟨dx, dy⟩ kn) = Ly from hLy.out, hNNy.out, hNNx.out] at this
          have := BNS.out; omega
        replace BNS := Lib.hid (And.intro BNS.out by_)
        have HXY := Lib.hid hxy
        clear hbel hall hK by_ hxy
        have T1 : Hid (∀ (A1 : Option Addr) (d1 : Nat) (W : World), RdP W A1 Nx d1 Lx → Rd W As na ca (vals .i64 kn) → Calls Try.prog 24 #[cellV k u (.slice A1 Nx d1), .int .i64 z, .agg #[.int .i64 dx, .int .i64 dy], .slice As na ca] W fun e w' => ∃ A' c', e = .returned (cellV k u (.slice A' Ny c')) ∧ RdP w' A' Ny c' Ly ∧ Below W.heap.size W w') := by
          intro A1 d1 W hW hK
          have := takeB_any k u A1 Nx d1 Lx z ⟨dx, dy⟩ As na ca kn W hW (by have := BNS.out; omega) hK
          rw [hLy.out, hNNy.out] at this
          exact this
        have SY : Hid (∀ (A1 : Option Addr) (d1 : Nat) (W : World), RdP W A1 Ny d1 Ly → Calls Try.prog 30 #[cellV k u (.slice A1 Ny d1)] W fun e w' => e = .returned (.agg #[.int .i64 1, .int .i64 (Sy : Nat), .string ⟨#[]⟩]) ∧ Below W.heap.size W w') := by
          intro A1 d1 W hW
          have := showB_any k u A1 Ny d1 Ly W hW (by have := BNS.out; omega)
          rw [hSy.out] at this
          exact this
        obtain ⟨RX0, RX1, RX2, RX3, RX4⟩ := cell_row5 RX.out
        obtain ⟨RQ0, RQ1⟩ := dot_row RQ.out
        try dsimp only at RQ0 RQ1
        go_wp2_with fail
        refine (P1.out _ RD.out).mono ?_
        rintro e v61 ⟨A1, d1, rfl, hrl, bb⟩
        replace RX := Lib.hid (row_below RX.out bb)
        replace RQ := Lib.hid (row_below RQ.out bb)
        replace RD := Lib.hid (RD.out.below bb)
        replace RK := Lib.hid (RK.out.below bb)
        replace HB := Lib.hid (below_then HB.out bb)
        clear bb
        have RL := Lib.hid hrl
        clear hrl
        clear RX0 RX1 RX2 RX3 RX4 RQ0 RQ1
        obtain ⟨v62, hw⟩ : ∃ w', w' = v61.alloc (cellRow k u (.slice A1 Nx d1)) := ⟨_, rfl⟩
        have RW : Hid (v62.heap[v61.heap.size]? = some (cellRow k u (.slice A1 Nx d1))) := by rw [hw]; exact heap_alloc_new _ _
        have bb : Below v61.heap.size v61 v62 := by rw [hw]; exact below_new (Below.refl _ _) _
        replace hw := Lib.hid hw
        replace RX := Lib.hid (row_below RX.out bb)
        replace RQ := Lib.hid (row_below RQ.out bb)
        replace RD := Lib.hid (RD.out.below bb)
        replace RK := Lib.hid (RK.out.below bb)
        replace RL := Lib.hid (RL.out.below bb)
        replace HB := Lib.hid (below_then HB.out bb)
        clear bb
        go_upto_region 13 with fail
        rw [show v61.alloc (Obj.cells #[Value.int .i64 k, .int .i64 u.k, .int .i64 u.n, .string u.s, .slice A1 Nx d1] 26) = v62 from hw.out.symm]
        clear hw
        generalize v61.heap.size = gRW at RW ⊢
        obtain ⟨RW0, RW1, RW2, RW3, RW4⟩ := cell_row5 RW.out
        obtain ⟨RQ0, RQ1⟩ := dot_row RQ.out
        try dsimp only at RQ0 RQ1
        go_wp2_with fail
        refine (T1.out _ _ _ RL.out RK.out).mono ?_
        rintro e v63 ⟨A2, d2, rfl, hry, bb⟩
        replace RX := Lib.hid (row_below RX.out bb)
        replace RQ := Lib.hid (row_below RQ.out bb)
        replace RW := Lib.hid (row_below RW.out bb)
        replace RD := Lib.hid (RD.out.below bb)
        replace RK := Lib.hid (RK.out.below bb)
        replace RL := Lib.hid (RL.out.below bb)
        replace HB := Lib.hid (below_then HB.out bb)
        clear bb
        have RM := Lib.hid hry
        clear hry
        clear RW0 RW1 RW2 RW3 RW4 RQ0 RQ1
        obtain ⟨v64, hw⟩ : ∃ w', w' = v63.alloc (cellRow k u (.slice A2 Ny d2)) := ⟨_, rfl⟩
        have RY : Hid (v64.heap[v63.heap.size]? = some (cellRow k u (.slice A2 Ny d2))) := by rw [hw]; exact heap_alloc_new _ _
        have bb : Below v63.heap.size v63 v64 := by rw [hw]; exact below_new (Below.refl _ _) _
        replace hw := Lib.hid hw
        replace RX := Lib.hid (row_below RX.out bb)
        replace RQ := Lib.hid (row_below RQ.out bb)
        replace RW := Lib.hid (row_below RW.out bb)
        replace RD := Lib.hid (RD.out.below bb)
        replace RK := Lib.hid (RK.out.below bb)
        replace RL := Lib.hid (RL.out.below bb)
        replace RM := Lib.hid (RM.out.below bb)
        replace HB := Lib.hid (below_then HB.out bb)
        clear bb
        go_upto_region 14 with fail
        rw [show v63.alloc (Obj.cells #[Value.int .i64 k, .int .i64 u.k, .int .i64 u.n, .string u.s, .slice A2 Ny d2] 26) = v64 from hw.out.symm]
        clear hw
        generalize v63.heap.size = gRY at RY ⊢
        have hw1 : IntKind.i64.wrap ((Sc : Int) + 1) = (Sx : Int) := by have h1 := HCX.out; rw [wrap_is (by omega)]; omega
        have hw2 : IntKind.i64.wrap ((Sx : Int) - 1) = (Sy : Int) := by have h1 := HCX.out; have h2 := HXY.out; rw [wrap_is (by omega)]; omega
        have FLD : ∀ (z : Int) (W : World), (Instr.field 23 (.agg #[.int .i64 1, .int .i64 z, .string ⟨#[]⟩]) 1).run Try.prog W = .ok (.int .i64 z) W := fun _ _ => by kernel_rfl
        have FLD0 : ∀ (z : Int) (W : World), (Instr.field 23 (.agg #[.int .i64 1, .int .i64 z, .string ⟨#[]⟩]) 0).run Try.prog W = .ok (.int .i64 1) W := fun _ _ => by kernel_rfl
        clear hb hLx hLy hNNx hNNy hSc hSx hSy BNS HCX HXY HOK P1 T1
        obtain ⟨RX0, RX1, RX2, RX3, RX4⟩ := cell_row5 RX.out
        obtain ⟨RW0, RW1, RW2, RW3, RW4⟩ := cell_row5 RW.out
        obtain ⟨RY0, RY1, RY2, RY3, RY4⟩ := cell_row5 RY.out
        have KA : Hid (∀ W, Below v64.heap.size v64 W → (Below v64.heap.size v64 W ∧ W.cell? ⟨g, 0, none⟩ = some (.int .i64 k) ∧ W.cell? ⟨g, 1, none⟩ = some (.int .i64 u.k) ∧ W.cell? ⟨g, 2, none⟩ = some (.int .i64 u.n) ∧ W.cell? ⟨g, 3, none⟩ = some (.string u.s) ∧ W.cell? ⟨g, 4, none⟩ = some (.slice A n c) ∧ W.cell? ⟨gRW, 0, none⟩ = some (.int .i64 k) ∧ W.cell? ⟨gRW, 1, none⟩ = some (.int .i64 u.k) ∧ W.cell? ⟨gRW, 2, none⟩ = some (.int .i64 u.n) ∧ W.cell? ⟨gRW, 3, none⟩ = some (.string u.s) ∧ W.cell? ⟨gRW, 4, none⟩ = some (.slice A1 Nx d1) ∧ W.cell? ⟨gRY, 0, none⟩ = some (.int .i64 k) ∧ W.cell? ⟨gRY, 1, none⟩ = some (.int .i64 u.k) ∧ W.cell? ⟨gRY, 2, none⟩ = some (.int .i64 u.n) ∧ W.cell? ⟨gRY, 3, none⟩ = some (.string u.s) ∧ W.cell? ⟨gRY, 4, none⟩ = some (.slice A2 Ny d2))) := by
          intro W hb
          have hc : ∀ (p : Addr) (y : Value), v64.cell? p = some y → W.cell? p = some y := fun p y h2 => (hb.cell (World.block_lt_of_cell? _ _ h2)).trans h2
          exact ⟨hb, hc _ _ RX0, hc _ _ RX1, hc _ _ RX2, hc _ _ RX3, hc _ _ RX4, hc _ _ RW0, hc _ _ RW1, hc _ _ RW2, hc _ _ RW3, hc _ _ RW4, hc _ _ RY0, hc _ _ RY1, hc _ _ RY2, hc _ _ RY3, hc _ _ RY4⟩
        clear RX0 RX1 RX2 RX3 RX4 RW0 RW1 RW2 RW3 RW4 RY0 RY1 RY2 RY3 RY4
        go_upto_region 14 with fail
        refine wp_region_noPanic ?_
        refine wp_region_held_drew (S := (fun W => Below v64.heap.size v64 W ∧ W.cell? ⟨g, 0, none⟩ = some (.int .i64 k) ∧ W.cell? ⟨g, 1, none⟩ = some (.int .i64 u.k) ∧ W.cell? ⟨g, 2, none⟩ = some (.int .i64 u.n) ∧ W.cell? ⟨g, 3, none⟩ = some (.string u.s) ∧ W.cell? ⟨g, 4, none⟩ = some (.slice A n c) ∧ W.cell? ⟨gRW, 0, none⟩ = some (.int .i64 k) ∧ W.cell? ⟨gRW, 1, none⟩ = some (.int .i64 u.k) ∧ W.cell? ⟨gRW, 2, none⟩ = some (.int .i64 u.n) ∧ W.cell? ⟨gRW, 3, none⟩ = some (.string u.s) ∧ W.cell? ⟨gRW, 4, none⟩ = some (.slice A1 Nx d1) ∧ W.cell? ⟨gRY, 0, none⟩ = some (.int .i64 k) ∧ W.cell? ⟨gRY, 1, none⟩ = some (.int .i64 u.k) ∧ W.cell? ⟨gRY, 2, none⟩ = some (.int .i64 u.n) ∧ W.cell? ⟨gRY, 3, none⟩ = some (.string u.s) ∧ W.cell? ⟨gRY, 4, none⟩ = some (.slice A2 Ny d2))) (by kernel_rfl) ?_ (fun hHeld => ?_)
        · exact KA.out _ ((Below.refl _ _).drew)
        refine wpAnyH_ready (rs := [0]) (by kernel_rfl) (by simp) (AllReadyH.cons rfl (fun K hK => ?_) AllReadyH.nil)
        go_simp
        refine (alive9_any _).mono ?_
        rintro e wx ⟨rfl, bb⟩
        (try go_wp2_with fail)
        refine hK.out _ _ ?_ (fun hHeld => ?_)
        · (try dsimp only)
          exact KA.out _ (below_then hHeld.1 bb)
        clear hK K
        (try simp only [Act.put, List.setIfInBounds_toArray, List.set_cons_zero, List.set_cons_succ])
        refine wpAnyH_one (by kernel_rfl) (fun _ _ _ _ _ h => h) (by assumption) 1 27 (some 57) ?_ _ (by rfl) (by rfl) (by kernel_rfl) (by rfl) ?_ ?_
        rotate_left 1
        · intro W hSw
          (try dsimp only at hSw)
          go_simp
          (try with_reducible rfl)
        (try simp only [Act.put, List.setIfInBounds_toArray, List.set_cons_zero, List.set_cons_succ])
        refine wpAnyH_one (by kernel_rfl) (fun _ _ _ _ _ h => h) (by assumption) 2 26 (some 58) ?_ _ (by rfl) (by rfl) (by kernel_rfl) (by rfl) ?_ ?_
        rotate_left 1
        · intro W hSw
          (try dsimp only at hSw)
          go_simp
          (try with_reducible rfl)
        (try simp only [Act.put, List.setIfInBounds_toArray, List.set_cons_zero, List.set_cons_succ])
        refine wpAnyH_one (by kernel_rfl) (fun _ _ _ _ _ h => h) (by assumption) 5 25 (some 61) ?_ _ (by rfl) (by rfl) (by kernel_rfl) (by rfl) ?_ ?_
        rotate_left 1
        · intro W hSw
          (try dsimp only at hSw)
          go_simp
          (try with_reducible rfl)
        (try simp only [Act.put, List.setIfInBounds_toArray, List.set_cons_zero, List.set_cons_succ])
        refine wpAnyH_one (by kernel_rfl) (fun _ _ _ _ _ h => h) (by assumption) 8 24 (some 64) ?_ _ (by rfl) (by rfl) (by kernel_rfl) (by rfl) ?_ ?_
        rotate_left 1
        · intro W hSw
          (try dsimp only at hSw)
          go_simp
          (try with_reducible rfl)
        (try simp only [Act.put, List.setIfInBounds_toArray, List.set_cons_zero, List.set_cons_succ])
        refine wpAnyH_ready (rs := [3]) (by kernel_rfl) (by simp) (AllReadyH.cons rfl (fun K hK => ?_) AllReadyH.nil)
        go_simp
        refine (SX.out _ _ _ (RL.out.below hHeld.1)).mono ?_
        rintro e wx ⟨rfl, bb⟩
        (try go_wp2_with fail)
        refine hK.out _ _ ?_ (fun hHeld => ?_)
        · (try dsimp only)
          exact KA.out _ (below_then hHeld.1 bb)
        clear hK K
        (try simp only [Act.put, List.setIfInBounds_toArray, List.set_cons_zero, List.set_cons_succ])
        refine wpAnyH_one (by kernel_rfl) (fun _ _ _ _ _ h => h) (by assumption) 4 22 (some 60) ?_ _ (by rfl) (by rfl) (by kernel_rfl) (by rfl) ?_ ?_
        rotate_left 1
        · intro W hSw
          (try dsimp only at hSw)
          go_simp
          (try with_reducible rfl)
        (try simp only [Act.put, List.setIfInBounds_toArray, List.set_cons_zero, List.set_cons_succ])
        refine wpAnyH_ready (rs := [6]) (by kernel_rfl) (by simp) (AllReadyH.cons rfl (fun K hK => ?_) AllReadyH.nil)
        go_simp
        refine (SC.out _ (RD.out.below hHeld.1)).mono ?_
        rintro e wx ⟨rfl, bb⟩
        (try go_wp2_with fail)
        refine hK.out _ _ ?_ (fun hHeld => ?_)
        · (try dsimp only)
          exact KA.out _ (below_then hHeld.1 bb)
        clear hK K
        (try simp only [Act.put, List.setIfInBounds_toArray, List.set_cons_zero, List.set_cons_succ])
        refine wpAnyH_one (by kernel_rfl) (fun _ _ _ _ _ h => h) (by assumption) 7 20 (some 63) ?_ _ (by rfl) (by rfl) (by kernel_rfl) (by rfl) ?_ ?_
        rotate_left 1
        · intro W hSw
          (try dsimp only at hSw)
          go_simp
          (try with_reducible rfl)
        (try simp only [Act.put, List.setIfInBounds_toArray, List.set_cons_zero, List.set_cons_succ])
        refine wpAnyH_one (by kernel_rfl) (fun _ _ _ _ _ h => h) (by assumption) 9 19 (some 65) ?_ _ (by rfl) (by rfl) (by kernel_rfl) (by rfl) ?_ ?_
        rotate_left 1
        · intro W hSw
          (try dsimp only at hSw)
          go_simp
          (try with_reducible rfl)
        (try simp only [Act.put, List.setIfInBounds_toArray, List.set_cons_zero, List.set_cons_succ])
        refine wpAnyH_one (by kernel_rfl) (fun _ _ _ _ _ h => h) (by assumption) 10 18 (some 66) ?_ _ (by rfl) (by rfl) (by kernel_rfl) (by rfl) ?_ ?_
        rotate_left 1
        · intro W hSw
          (try dsimp only at hSw)
          go_simp
          (try with_reducible rfl)
        (try simp only [Act.put, List.setIfInBounds_toArray, List.set_cons_zero, List.set_cons_succ])
        refine wpAnyH_one (by kernel_rfl) (fun _ _ _ _ _ h => h) (by assumption) 11 17 (some 67) ?_ _ (by rfl) (by rfl) (by kernel_rfl) (by rfl) ?_ ?_
        rotate_left 1
        · intro W hSw
          (try dsimp only at hSw)
          go_simp
          (try with_reducible rfl)
        (try simp only [Act.put, List.setIfInBounds_toArray, List.set_cons_zero, List.set_cons_succ])
        refine wpAnyH_one (by kernel_rfl) (fun _ _ _ _ _ h => h) (by assumption) 12 16 (some 68) ?_ _ (by rfl) (by rfl) (by kernel_rfl) (by rfl) ?_ ?_
        rotate_left 1
        · intro W hSw
          (try dsimp only at hSw)
          go_simp
          (try with_reducible rfl)
        (try simp only [Act.put, List.setIfInBounds_toArray, List.set_cons_zero, List.set_cons_succ])
        refine wpAnyH_one (by kernel_rfl) (fun _ _ _ _ _ h => h) (by assumption) 13 15 (some 69) ?_ _ (by rfl) (by rfl) (by kernel_rfl) (by rfl) ?_ ?_
        rotate_left 1
        · intro W hSw
          (try dsimp only at hSw)
          go_simp
          (try with_reducible rfl)
        (try simp only [Act.put, List.setIfInBounds_toArray, List.set_cons_zero, List.set_cons_succ])
        refine wpAnyH_one (by kernel_rfl) (fun _ _ _ _ _ h => h) (by assumption) 16 14 (some 72) ?_ _ (by rfl) (by rfl) (by kernel_rfl) (by rfl) ?_ ?_
        rotate_left 1
        · intro W hSw
          (try dsimp only at hSw)
          go_simp
          (try with_reducible rfl)
        (try simp only [Act.put, List.setIfInBounds_toArray, List.set_cons_zero, List.set_cons_succ])
        refine wpAnyH_ready (rs := [14]) (by kernel_rfl) (by simp) (AllReadyH.cons rfl (fun K hK => ?_) AllReadyH.nil)
        go_simp
        refine (SY.out _ _ _ (RM.out.below hHeld.1)).mono ?_
        rintro e wx ⟨rfl, bb⟩
        (try go_wp2_with fail)
        refine hK.out _ _ ?_ (fun hHeld => ?_)
        · (try dsimp only)
          exact KA.out _ (below_then hHeld.1 bb)
        clear hK K
        (try simp only [Act.put, List.setIfInBounds_toArray, List.set_cons_zero, List.set_cons_succ])
        refine wpAnyH_one (by kernel_rfl) (fun _ _ _ _ _ h => h) (by assumption) 15 12 (some 71) ?_ _ (by rfl) (by rfl) (by kernel_rfl) (by rfl) ?_ ?_
        rotate_left 1
        · intro W hSw
          (try dsimp only at hSw)
          go_simp
          (try with_reducible rfl)
        (try simp only [Act.put, List.setIfInBounds_toArray, List.set_cons_zero, List.set_cons_succ])
        refine wpAnyH_ready (rs := [17]) (by kernel_rfl) (by simp) (AllReadyH.cons rfl (fun K hK => ?_) AllReadyH.nil)
        go_simp
        refine (SX.out _ _ _ (RL.out.below hHeld.1)).mono ?_
        rintro e wx ⟨rfl, bb⟩
        (try go_wp2_with fail)
        refine hK.out _ _ ?_ (fun hHeld => ?_)
        · (try dsimp only)
          exact KA.out _ (below_then hHeld.1 bb)
        clear hK K
        (try simp only [Act.put, List.setIfInBounds_toArray, List.set_cons_zero, List.set_cons_succ])
        refine wpAnyH_one (by kernel_rfl) (fun _ _ _ _ _ h => h) (by assumption) 18 10 (some 74) ?_ _ (by rfl) (by rfl) (by kernel_rfl) (by rfl) ?_ ?_
        rotate_left 1
        · intro W hSw
          (try dsimp only at hSw)
          go_simp
          (try with_reducible rfl)
        (try simp only [Act.put, List.setIfInBounds_toArray, List.set_cons_zero, List.set_cons_succ])
        refine wpAnyH_one (by kernel_rfl) (fun _ _ _ _ _ h => h) (by assumption) 19 9 (some 75) ?_ _ (by rfl) (by rfl) (by kernel_rfl) (by rfl) ?_ ?_
        rotate_left 1
        · intro W hSw
          (try dsimp only at hSw)
          go_simp
          (try with_reducible rfl)
        (try simp only [Act.put, List.setIfInBounds_toArray, List.set_cons_zero, List.set_cons_succ])
        refine wpAnyH_one (by kernel_rfl) (fun _ _ _ _ _ h => h) (by assumption) 20 8 (some 76) ?_ _ (by rfl) (by rfl) (by kernel_rfl) (by rfl) ?_ ?_
        rotate_left 1
        · intro W hSw
          (try dsimp only at hSw)
          go_simp
          (try with_reducible rfl)
        (try simp only [Act.put, List.setIfInBounds_toArray, List.set_cons_zero, List.set_cons_succ])
        refine wpAnyH_one (by kernel_rfl) (fun _ _ _ _ _ h => h) (by assumption) 21 7 (some 77) ?_ _ (by rfl) (by rfl) (by kernel_rfl) (by rfl) ?_ ?_
        rotate_left 1
        · intro W hSw
          (try dsimp only at hSw)
          go_simp
          (try with_reducible rfl)
        (try simp only [Act.put, List.setIfInBounds_toArray, List.set_cons_zero, List.set_cons_succ])
        refine wpAnyH_one (by kernel_rfl) (fun _ _ _ _ _ h => h) (by assumption) 22 6 (some 78) ?_ _ (by rfl) (by rfl) (by kernel_rfl) (by rfl) ?_ ?_
        rotate_left 1
        · intro W hSw
          (try dsimp only at hSw)
          go_simp
          (try with_reducible rfl)
        (try simp only [Act.put, List.setIfInBounds_toArray, List.set_cons_zero, List.set_cons_succ])
        refine wpAnyH_one (by kernel_rfl) (fun _ _ _ _ _ h => h) (by assumption) 23 5 (some 79) ?_ _ (by rfl) (by rfl) (by kernel_rfl) (by rfl) ?_ ?_
        rotate_left 1
        · intro W hSw
          (try dsimp only at hSw)
          go_simp
          (try with_reducible rfl)
        (try simp only [Act.put, List.setIfInBounds_toArray, List.set_cons_zero, List.set_cons_succ])
        refine wpAnyH_ready (rs := [24]) (by kernel_rfl) (by simp) (AllReadyH.cons rfl (fun K hK => ?_) AllReadyH.nil)
        go_simp
        refine (SC.out _ (RD.out.below hHeld.1)).mono ?_
        rintro e wx ⟨rfl, bb⟩
        (try go_wp2_with fail)
        refine hK.out _ _ ?_ (fun hHeld => ?_)
        · (try dsimp only)
          exact KA.out _ (below_then hHeld.1 bb)
        clear hK K
        (try simp only [Act.put, List.setIfInBounds_toArray, List.set_cons_zero, List.set_cons_succ])
        refine wpAnyH_one (by kernel_rfl) (fun _ _ _ _ _ h => h) (by assumption) 25 3 (some 81) ?_ _ (by rfl) (by rfl) (by kernel_rfl) (by rfl) ?_ ?_
        rotate_left 1
        · intro W hSw
          (try dsimp only at hSw)
          go_simp
          (try with_reducible rfl)
        (try simp only [Act.put, List.setIfInBounds_toArray, List.set_cons_zero, List.set_cons_succ])
        refine wpAnyH_one (by kernel_rfl) (fun _ _ _ _ _ h => h) (by assumption) 26 2 (some 82) ?_ _ (by rfl) (by rfl) (by kernel_rfl) (by rfl) ?_ ?_
        rotate_left 1
        · intro W hSw
          (try dsimp only at hSw)
          go_simp
          (try with_reducible rfl)
        (try simp only [Act.put, List.setIfInBounds_toArray, List.set_cons_zero, List.set_cons_succ])
        refine wpAnyH_one (by kernel_rfl) (fun _ _ _ _ _ h => h) (by assumption) 27 1 (some 83) ?_ _ (by rfl) (by rfl) (by kernel_rfl) (by rfl) ?_ ?_
        rotate_left 1
        · intro W hSw
          (try dsimp only at hSw)
          go_simp
          (try with_reducible rfl)
        (try simp only [Act.put, List.setIfInBounds_toArray, List.set_cons_zero, List.set_cons_succ])
        refine wpAnyH_one (by kernel_rfl) (fun _ _ _ _ _ h => h) (by assumption) 28 0 (some 6) ?_ _ (by rfl) (by rfl) (by kernel_rfl) (by rfl) ?_ ?_
        rotate_left 1
        · intro W hSw
          (try dsimp only at hSw)
          go_simp
          (try with_reducible rfl)
        (try simp only [Act.put, List.setIfInBounds_toArray, List.set_cons_zero, List.set_cons_succ])
        refine wpAnyH_done (by kernel_rfl) ?_ _
        refine NoPanic.normal ?_
        (try simp only [Act.put, List.setIfInBounds_toArray, List.set_cons_zero, List.set_cons_succ])
        have HZ := Lib.hid (below_then HB.out hHeld.1)
        go_wp2_with fail
        go_ret
        exact ⟨rfl, HZ.out⟩

set_option maxRecDepth 100000 in
theorem contract (H : Type) (enc : TypeId × Value → H) (W : World) (base : Nat) (args : Array Value) (ds gs : List (DataW H)) (before : List MemPlace)
    (hval : ∀ (j : Nat) t v, Try.f9.params[j]? = some t → args[j]? = some v → Value.okWide Try.prog W .any base t v)
    (hW : DataW.Whole enc Try.prog Try.f9.params.toList Rows.bagCountsSpec.vars false W args.toList ds gs before) :
    Calls Try.prog 9 args W fun e W' => ∃ v, e = .returned v ∧ Rows.bagCountsSpec.post enc Try.prog Try.f9 false true false false W args v W' := by
  have hlt : ∀ x ∈ before, x.block < W.heap.size := fun x hx => by simpa using hW.lt x hx
  refine law_step 4 Try.laid_ (by kernel_rfl) rfl Try.underlying4 rfl hW (fun xs hx => ?_) ?_
  · match xs, hx with
    | [d0, d1, d2], _ => rfl
  · obtain ⟨p, q, hA0, hV, rfl, _, _⟩ := hW
    have hA : DataW.TrodAll enc Try.prog W 0 (fun _ => true) true Try.f9.params.toList args.toList ds p := hA0
    rw [Try.params9] at hA hval
    obtain ⟨v0, vs0, d0, ds0, p0, q0, e0, rfl, rfl, h0, r0⟩ := trodAll_cons hA
    obtain ⟨v1, vs1, d1, ds1, p1, q1, e1, rfl, rfl, h1, r1⟩ := trodAll_cons r0
    obtain ⟨v2, vs2, d2, ds2, p2, q2, e2, rfl, rfl, h2, r2⟩ := trodAll_cons r1
    obtain ⟨rfl, rfl, rfl⟩ := trodAll_nil r2
    subst e2
    subst e1
    obtain rfl : args = #[v0, v1, v2] := by cases args; simp_all
    clear e0 hA0
    obtain ⟨k0, u0, A0, n0, c0, l, rfl, rd0, wk0, wu0, wl0⟩ := open_cell (hval 0 26 v0 rfl rfl) h0
    obtain ⟨m, rfl, rfl, rfl, w1⟩ := open_int Try.underlying3 (hval 1 3 v1 rfl rfl) h1
    obtain ⟨lo1, hi1⟩ := wf_i64 w1
    obtain ⟨x2, y2, rfl, wx2, wy2⟩ := open_dot (hval 2 28 v2 rfl rfl) h2
    exact walk k0 u0 A0 n0 c0 l m x2 y2 W rd0

set_option maxRecDepth 100000 in
theorem lifted (os : Os) (started : os.Started) (H : Type) (enc : TypeId × Value → H) :
    ReturnsInHanded {} Try.checked os 9 .any (Rows.bagCountsSpec.pre6 enc Try.prog Try.f9 Rows.bagCountsRow.domain false) (Rows.bagCountsSpec.post enc Try.prog Try.f9 false true false false) := by
  refine returnsInHanded_of_change (C := Try.checked) Try.own_ started (by kernel_rfl) Try.func9
    (ChangeSpec.witness6 (enc := enc) (C := Try.checked) false ⟨#[], #[.agg #[.int .i64 0, .int .i64 0, .int .i64 0, .string ⟨#[]⟩, .slice none 0 0], .int .i64 0, .agg #[.int .i64 0, .int .i64 0]], []⟩ 8 (by kernel_rfl) (by kernel_rfl) (by kernel_rfl) (by kernel_rfl)) ?_
  intro W base args ds gs before hval hW _ _
  exact contract H enc W base args ds gs before hval hW

theorem holds : Rows.BagCountsSaid :=
  OpenClaim.holds_of_wide 9 Try.f9 rfl rfl rfl rfl rfl rfl rfl ⟨rfl, rfl, rfl, rfl, rfl⟩ rfl rfl rfl rfl rfl (by kernel_rfl) Try.func9 (by kernel_rfl)
    (of_decide_eq_true (by kernel_rfl)) (by unfold Func.isWrapper; first | (rw [if_pos (by decide +kernel)]; kernel_rfl) | (rw [if_neg (by decide +kernel)]; exact ⟨rfl, rfl⟩))
    (fun os started H enc _ => lifted os started H enc)
end Go.Proofs.Ytomdbjmbkfdcmaa.bagCounts

