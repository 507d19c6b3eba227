/- A counter never is too great: what is added makes one that may be, or nothing; what was added can be taken off again. Of all cells and all numbers. -/
import Derived.Test.YtieaobeidlhefaaRows
import Derived.Test.YtieaobeidlhefaaLaw
import Derived.Test.YtieaobeidlhefaaCntLaw
import Derived.Test.YtieaobeidlhefaaCellOpen
namespace Go.Proofs.Ytieaobeidlhefaa.countBounds
open Go.ChangeShapes Go.WideShapes Go.ChangeAt Go.RowKit Go.ChangeMaps

set_option maxRecDepth 100000 in
set_option maxHeartbeats 12800000 in
theorem walk (k : Int) (u : V3) (A : Option Addr) (n c : Nat) (m : Int) (w : World) (hm : -9223372036854775808 ≤ m ∧ m ≤ 9223372036854775807) :
    Calls Try.prog 14 #[cellV k u (.slice A n c), .int .i64 m] w fun e w' => e = .returned (.bool true) ∧ Below w.heap.size w w' := by
  have HB := Lib.hid (Below.refl w.heap.size w)
  by_cases hgood : (⟨k, u, A, n, c⟩ : C5).right = 0 ∧ okC m = true ∧ okC (u.n + m) = true
  · obtain ⟨hr, hmo, hso⟩ := hgood
    obtain ⟨h1, h2, h3, h4, h5, h6⟩ := right_n hr
    obtain ⟨s, hs⟩ : ∃ s, u.n = s := ⟨_, rfl⟩
    obtain rfl : u = ⟨1, s, noS⟩ := by rw [← hs]; exact v3_n h2 h3
    simp only [] at h1 h4 h5 h6 hso
    subst h1; subst h4
    obtain ⟨t, ht⟩ : ∃ t, s + m = t := ⟨_, rfl⟩
    rw [ht] at hso
    obtain ⟨m1, m2⟩ := okC_iff hmo
    have hsc : okC s = true := okC_of ⟨h5, h6⟩
    have hneg : IntKind.i64.wrap (-m) = -m := wrap_is (by omega)
    have CA : Hid (∀ W : World, Calls Try.prog 36 #[cellV 2 ⟨1, s, noS⟩ (.slice A 0 c), .int .i64 m] W fun e w' => e = .returned (.tuple #[cntV t, .int .i64 0]) ∧ Below W.heap.size W w') := by
      intro W
      have := cntAdd_any ⟨2, ⟨1, s, noS⟩, A, 0, c⟩ m W hm
      rw [addC, addE, if_pos ⟨hr, hmo⟩, if_pos hr, if_pos hmo, outC, outE, show (⟨2, ⟨1, s, noS⟩, A, 0, c⟩ : C5).v.n + m = t from ht, if_pos hso, if_pos hso] at this
      exact this
    have CB : Hid (∀ W : World, Calls Try.prog 36 #[cntV t, .int .i64 (-m)] W fun e w' => e = .returned (.tuple #[cntV s, .int .i64 0]) ∧ Below W.heap.size W w') := by
      intro W
      exact cntAdd_is t (-m) s W hso (okC_of (by omega)) hsc (by omega)
    have CR : Hid (∀ (s : Int) (A : Option Addr) (c : Nat) (W : World), okC s = true → Calls Try.prog 38 #[cellV 2 ⟨1, s, noS⟩ (.slice A 0 c)] W fun e w' => e = .returned (.int .i64 0) ∧ Below W.heap.size W w') := by
      intro s A c W hs
      have := cntRight_any 2 ⟨1, s, noS⟩ A 0 c W
      rw [rightN_cnt, if_pos hs] at this
      exact this
    have CS : Hid (∀ (s : Int) (A : Option Addr) (c : Nat) (W : World), okC s = true → Calls Try.prog 40 #[cellV 2 ⟨1, s, noS⟩ (.slice A 0 c)] W fun e w' => e = .returned (.agg #[.int .i64 1, .int .i64 s, .string noS]) ∧ Below W.heap.size W w') := by
      intro s A c W hs
      have := cntShow_any ⟨2, ⟨1, s, noS⟩, A, 0, c⟩ W
      rw [showC, if_pos (cnt5_right hs)] at this
      exact this
    have SM : Hid (∀ W : World, Calls Try.prog 42 #[cntV s, cellV 2 ⟨1, s, noS⟩ (.slice A 0 c)] W fun e w' => e = .returned (.bool true) ∧ Below W.heap.size W w') := by
      intro W
      have := refSame8_any (cnt5 s) ⟨2, ⟨1, s, noS⟩, A, 0, c⟩ W
      rw [show same8 (cnt5 s) ⟨2, ⟨1, s, noS⟩, A, 0, c⟩ = true by simp [same8, sameZ]] at this
      exact this
    have FLD : ∀ (z : Int) (W : World), (Instr.field 23 (.agg #[.int .i64 1, .int .i64 z, .string noS]) 1).run Try.prog W = .ok (.int .i64 z) W := fun _ _ => by kernel_rfl
    have hsub : IntKind.i64.wrap (t - s) = m := by rw [wrap_is (by omega)]; omega
    have HSC := Lib.hid hsc; have HSO := Lib.hid hso
    clear hr hmo hso hsc hs ht h2 h3 h5 h6 m1 m2 hm
    go_enter Try.func14, Try.ntmps14
    obtain ⟨w1, hw⟩ : ∃ w', w' = w.alloc (cellRow 2 ⟨1, s, noS⟩ (.slice A 0 c)) := ⟨_, rfl⟩
    have RX : Hid (w1.heap[w.heap.size]? = some (cellRow 2 ⟨1, s, noS⟩ (.slice A 0 c))) := by rw [hw]; exact heap_alloc_new _ _
    have bb : Below w.heap.size w w1 := by rw [hw]; exact below_new (Below.refl _ _) _
    replace hw := Lib.hid hw
    replace HB := Lib.hid (below_then HB.out bb)
    clear bb
    go_upto_region 1 with fail
    rw [show w.alloc (Obj.cells #[Value.int .i64 2, .int .i64 1, .int .i64 s, .string ⟨#[]⟩, .slice A 0 c] 26) = w1 from hw.out.symm]
    clear hw
    generalize w.heap.size = gRX at RX ⊢
    go_wp2_with fail
    refine (cntAwake_any _).mono ?_
    rintro e w2 ⟨rfl, bb⟩
    replace RX := Lib.hid (row_below RX.out bb)
    replace HB := Lib.hid (below_then HB.out bb)
    clear bb
    obtain ⟨RX0, RX1, RX2, RX3, RX4⟩ := cell_row5 RX.out
    try dsimp only at RX0 RX1 RX2 RX3 RX4
    go_wp2_with fail
    refine (CA.out _).mono ?_
    rintro e w3 ⟨rfl, bb⟩
    replace RX := Lib.hid (row_below RX.out bb)
    replace HB := Lib.hid (below_then HB.out bb)
    clear bb
    clear RX0 RX1 RX2 RX3 RX4
    obtain ⟨w4, hw⟩ : ∃ w', w' = w3.alloc (cntRow t) := ⟨_, rfl⟩
    have RA : Hid (w4.heap[w3.heap.size]? = some (cntRow t)) := by rw [hw]; exact heap_alloc_new _ _
    have bb : Below w3.heap.size w3 w4 := by rw [hw]; exact below_new (Below.refl _ _) _
    replace hw := Lib.hid hw
    replace RX := Lib.hid (row_below RX.out bb)
    replace HB := Lib.hid (below_then HB.out bb)
    clear bb
    go_upto_region 3 with fail
    rw [show w3.alloc (Obj.cells #[Value.int .i64 2, .int .i64 1, .int .i64 t, .string ⟨#[]⟩, .slice none 0 0] 26) = w4 from hw.out.symm]
    clear hw
    generalize w3.heap.size = gRA at RA ⊢
    obtain ⟨RX0, RX1, RX2, RX3, RX4⟩ := cell_row5 RX.out
    try dsimp only at RX0 RX1 RX2 RX3 RX4
    obtain ⟨RA0, RA1, RA2, RA3, RA4⟩ := cell_row5 RA.out
    try dsimp only at RA0 RA1 RA2 RA3 RA4
    go_wp2_with fail
    refine (CB.out _).mono ?_
    rintro e w5 ⟨rfl, bb⟩
    replace RX := Lib.hid (row_below RX.out bb)
    replace RA := Lib.hid (row_below RA.out bb)
    replace HB := Lib.hid (below_then HB.out bb)
    clear bb
    clear RX0 RX1 RX2 RX3 RX4 RA0 RA1 RA2 RA3 RA4
    obtain ⟨w6, hw⟩ : ∃ w', w' = w5.alloc (cntRow s) := ⟨_, rfl⟩
    have RB : Hid (w6.heap[w5.heap.size]? = some (cntRow s)) := by rw [hw]; exact heap_alloc_new _ _
    have bb : Below w5.heap.size w5 w6 := by rw [hw]; exact below_new (Below.refl _ _) _
    replace hw := Lib.hid hw
    replace RX := Lib.hid (row_below RX.out bb)
    replace RA := Lib.hid (row_below RA.out bb)
    replace HB := Lib.hid (below_then HB.out bb)
    clear bb
    go_upto_region 6 with fail
    rw [show w5.alloc (Obj.cells #[Value.int .i64 2, .int .i64 1, .int .i64 s, .string ⟨#[]⟩, .slice none 0 0] 26) = w6 from hw.out.symm]
    clear hw
    generalize w5.heap.size = gRB at RB ⊢
    obtain ⟨RX0, RX1, RX2, RX3, RX4⟩ := cell_row5 RX.out
    try dsimp only at RX0 RX1 RX2 RX3 RX4
    obtain ⟨RA0, RA1, RA2, RA3, RA4⟩ := cell_row5 RA.out
    try dsimp only at RA0 RA1 RA2 RA3 RA4
    obtain ⟨RB0, RB1, RB2, RB3, RB4⟩ := cell_row5 RB.out
    try dsimp only at RB0 RB1 RB2 RB3 RB4
    have hS0 : Below w6.heap.size w6 w6 ∧ w6.cell? ⟨gRX, 0, none⟩ = some (.int .i64 2) ∧ w6.cell? ⟨gRX, 1, none⟩ = some (.int .i64 1) ∧ w6.cell? ⟨gRX, 2, none⟩ = some (.int .i64 s) ∧ w6.cell? ⟨gRX, 3, none⟩ = some (.string noS) ∧ w6.cell? ⟨gRX, 4, none⟩ = some (.slice A 0 c) ∧ w6.cell? ⟨gRA, 0, none⟩ = some (.int .i64 2) ∧ w6.cell? ⟨gRA, 1, none⟩ = some (.int .i64 1) ∧ w6.cell? ⟨gRA, 2, none⟩ = some (.int .i64 t) ∧ w6.cell? ⟨gRA, 3, none⟩ = some (.string noS) ∧ w6.cell? ⟨gRA, 4, none⟩ = some (.slice none 0 0) ∧ w6.cell? ⟨gRB, 0, none⟩ = some (.int .i64 2) ∧ w6.cell? ⟨gRB, 1, none⟩ = some (.int .i64 1) ∧ w6.cell? ⟨gRB, 2, none⟩ = some (.int .i64 s) ∧ w6.cell? ⟨gRB, 3, none⟩ = some (.string noS) ∧ w6.cell? ⟨gRB, 4, none⟩ = some (.slice none 0 0) := ⟨Below.refl _ _, RX0, RX1, RX2, RX3, RX4, RA0, RA1, RA2, RA3, RA4, RB0, RB1, RB2, RB3, RB4⟩
    have K : Hid (∀ W W' : World, (Below w6.heap.size w6 W ∧ W.cell? ⟨gRX, 0, none⟩ = some (.int .i64 2) ∧ W.cell? ⟨gRX, 1, none⟩ = some (.int .i64 1) ∧ W.cell? ⟨gRX, 2, none⟩ = some (.int .i64 s) ∧ W.cell? ⟨gRX, 3, none⟩ = some (.string noS) ∧ W.cell? ⟨gRX, 4, none⟩ = some (.slice A 0 c) ∧ W.cell? ⟨gRA, 0, none⟩ = some (.int .i64 2) ∧ W.cell? ⟨gRA, 1, none⟩ = some (.int .i64 1) ∧ W.cell? ⟨gRA, 2, none⟩ = some (.int .i64 t) ∧ W.cell? ⟨gRA, 3, none⟩ = some (.string noS) ∧ W.cell? ⟨gRA, 4, none⟩ = some (.slice none 0 0) ∧ W.cell? ⟨gRB, 0, none⟩ = some (.int .i64 2) ∧ W.cell? ⟨gRB, 1, none⟩ = some (.int .i64 1) ∧ W.cell? ⟨gRB, 2, none⟩ = some (.int .i64 s) ∧ W.cell? ⟨gRB, 3, none⟩ = some (.string noS) ∧ W.cell? ⟨gRB, 4, none⟩ = some (.slice none 0 0)) → Below W.heap.size W W' → (Below w6.heap.size w6 W' ∧ W'.cell? ⟨gRX, 0, none⟩ = some (.int .i64 2) ∧ W'.cell? ⟨gRX, 1, none⟩ = some (.int .i64 1) ∧ W'.cell? ⟨gRX, 2, none⟩ = some (.int .i64 s) ∧ W'.cell? ⟨gRX, 3, none⟩ = some (.string noS) ∧ W'.cell? ⟨gRX, 4, none⟩ = some (.slice A 0 c) ∧ W'.cell? ⟨gRA, 0, none⟩ = some (.int .i64 2) ∧ W'.cell? ⟨gRA, 1, none⟩ = some (.int .i64 1) ∧ W'.cell? ⟨gRA, 2, none⟩ = some (.int .i64 t) ∧ W'.cell? ⟨gRA, 3, none⟩ = some (.string noS) ∧ W'.cell? ⟨gRA, 4, none⟩ = some (.slice none 0 0) ∧ W'.cell? ⟨gRB, 0, none⟩ = some (.int .i64 2) ∧ W'.cell? ⟨gRB, 1, none⟩ = some (.int .i64 1) ∧ W'.cell? ⟨gRB, 2, none⟩ = some (.int .i64 s) ∧ W'.cell? ⟨gRB, 3, none⟩ = some (.string noS) ∧ W'.cell? ⟨gRB, 4, none⟩ = some (.slice none 0 0))) := by
      rintro W W' ⟨kk, k0, k1, k2, k3, k4, k5, k6, k7, k8, k9, k10, k11, k12, k13, k14⟩ hb
      have hc : ∀ (p : Addr) (y : Value), W.cell? p = some y → W'.cell? p = some y := fun p y h2 => (hb.cell (World.block_lt_of_cell? _ _ h2)).trans h2
      exact ⟨below_then kk hb, hc _ _ k0, hc _ _ k1, hc _ _ k2, hc _ _ k3, hc _ _ k4, hc _ _ k5, hc _ _ k6, hc _ _ k7, hc _ _ k8, hc _ _ k9, hc _ _ k10, hc _ _ k11, hc _ _ k12, hc _ _ k13, hc _ _ k14⟩
    go_region_held3 (fun W => Below w6.heap.size w6 W ∧ W.cell? ⟨gRX, 0, none⟩ = some (.int .i64 2) ∧ W.cell? ⟨gRX, 1, none⟩ = some (.int .i64 1) ∧ W.cell? ⟨gRX, 2, none⟩ = some (.int .i64 s) ∧ W.cell? ⟨gRX, 3, none⟩ = some (.string noS) ∧ W.cell? ⟨gRX, 4, none⟩ = some (.slice A 0 c) ∧ W.cell? ⟨gRA, 0, none⟩ = some (.int .i64 2) ∧ W.cell? ⟨gRA, 1, none⟩ = some (.int .i64 1) ∧ W.cell? ⟨gRA, 2, none⟩ = some (.int .i64 t) ∧ W.cell? ⟨gRA, 3, none⟩ = some (.string noS) ∧ W.cell? ⟨gRA, 4, none⟩ = some (.slice none 0 0) ∧ W.cell? ⟨gRB, 0, none⟩ = some (.int .i64 2) ∧ W.cell? ⟨gRB, 1, none⟩ = some (.int .i64 1) ∧ W.cell? ⟨gRB, 2, none⟩ = some (.int .i64 s) ∧ W.cell? ⟨gRB, 3, none⟩ = some (.string noS) ∧ W.cell? ⟨gRB, 4, none⟩ = some (.slice none 0 0))
      (first
        | exact K.out _ _ hS0 ((Below.refl _ _).drew)
        | exact K.out _ _ (by assumption) bb
        | exact K.out _ _ (by assumption) ((Below.refl _ _).alloc (Nat.le_refl _) _)
        | exact K.out _ _ hS0 (((Below.refl _ _).alloc (Nat.le_refl _) _).drew))
      (first
        | (go_at_call 38; refine (CR.out _ _ _ _ (by first | exact HSC.out | exact HSO.out)).mono ?_; rintro e wx ⟨rfl, bb⟩)
        | (go_at_call 40; refine (CS.out _ _ _ _ (by first | exact HSC.out | exact HSO.out)).mono ?_; rintro e wx ⟨rfl, bb⟩)
        | (go_at_call 42; refine (SM.out _).mono ?_; rintro e wx ⟨rfl, bb⟩))
    have hSz : Below w6.heap.size w6 wx ∧ wx.cell? ⟨gRX, 0, none⟩ = some (.int .i64 2) ∧ wx.cell? ⟨gRX, 1, none⟩ = some (.int .i64 1) ∧ wx.cell? ⟨gRX, 2, none⟩ = some (.int .i64 s) ∧ wx.cell? ⟨gRX, 3, none⟩ = some (.string noS) ∧ wx.cell? ⟨gRX, 4, none⟩ = some (.slice A 0 c) ∧ wx.cell? ⟨gRA, 0, none⟩ = some (.int .i64 2) ∧ wx.cell? ⟨gRA, 1, none⟩ = some (.int .i64 1) ∧ wx.cell? ⟨gRA, 2, none⟩ = some (.int .i64 t) ∧ wx.cell? ⟨gRA, 3, none⟩ = some (.string noS) ∧ wx.cell? ⟨gRA, 4, none⟩ = some (.slice none 0 0) ∧ wx.cell? ⟨gRB, 0, none⟩ = some (.int .i64 2) ∧ wx.cell? ⟨gRB, 1, none⟩ = some (.int .i64 1) ∧ wx.cell? ⟨gRB, 2, none⟩ = some (.int .i64 s) ∧ wx.cell? ⟨gRB, 3, none⟩ = some (.string noS) ∧ wx.cell? ⟨gRB, 4, none⟩ = some (.slice none 0 0) := by assumption
    have HZ := below_then HB.out hSz.1
    go_wp2_with fail
    go_ret
    exact ⟨rfl, HZ⟩
  · obtain ⟨r, hr⟩ : ∃ r, rightN k u n = r := ⟨_, rfl⟩
    obtain ⟨E, hE⟩ : ∃ E, addE ⟨k, u, A, n, c⟩ m = E := ⟨_, rfl⟩
    have hC : addC ⟨k, u, A, n, c⟩ m = zeroCell := by
      unfold addC
      by_cases h : (⟨k, u, A, n, c⟩ : C5).right = 0 ∧ okC m = true
      · rw [if_pos h, outC, if_neg (fun h2 => hgood ⟨h.1, h.2, h2⟩)]
      · rw [if_neg h]
    have hEr : ¬ E = 0 ∧ (E = 20 ∨ E = r) := by
      rw [← hE, ← hr]
      unfold addE
      by_cases h : (⟨k, u, A, n, c⟩ : C5).right = 0
      · rw [if_pos h]
        by_cases h2 : okC m = true
        · rw [if_pos h2, outE, if_neg (fun h3 => hgood ⟨h, h2, h3⟩)]; exact ⟨by decide, .inl rfl⟩
        · rw [if_neg h2]; exact ⟨by decide, .inl rfl⟩
      · rw [if_neg h]; exact ⟨h, .inr rfl⟩
    have CA : Hid (∀ W : World, Calls Try.prog 36 #[cellV k u (.slice A n c), .int .i64 m] W fun e w' => e = .returned (.tuple #[zeroCell, .int .i64 E]) ∧ Below W.heap.size W w') := by
      intro W
      rw [← hC, ← hE]; exact cntAdd_any ⟨k, u, A, n, c⟩ m W hm
    have CR : Hid (∀ W : World, Calls Try.prog 38 #[cellV k u (.slice A n c)] W fun e w' => e = .returned (.int .i64 r) ∧ Below W.heap.size W w') := by
      intro W
      rw [← hr]; exact cntRight_any k u A n c W
    obtain ⟨hE0, hE2⟩ := hEr
    clear hC hE hr hm hgood
    go_enter Try.func14, Try.ntmps14
    obtain ⟨w1, hw⟩ : ∃ w', w' = w.alloc (cellRow k u (.slice A n c)) := ⟨_, rfl⟩
    have RX : Hid (w1.heap[w.heap.size]? = some (cellRow k u (.slice A n c))) := by rw [hw]; exact heap_alloc_new _ _
    have bb : Below w.heap.size w w1 := by rw [hw]; exact below_new (Below.refl _ _) _
    replace hw := Lib.hid hw
    replace HB := Lib.hid (below_then HB.out bb)
    clear bb
    go_upto_region 1 with fail
    rw [show w.alloc (Obj.cells #[Value.int .i64 k, .int .i64 u.k, .int .i64 u.n, .string u.s, .slice A n c] 26) = w1 from hw.out.symm]
    clear hw
    generalize w.heap.size = gRX at RX ⊢
    go_wp2_with fail
    refine (cntAwake_any _).mono ?_
    rintro e w2 ⟨rfl, bb⟩
    replace RX := Lib.hid (row_below RX.out bb)
    replace HB := Lib.hid (below_then HB.out bb)
    clear bb
    obtain ⟨RX0, RX1, RX2, RX3, RX4⟩ := cell_row5 RX.out
    try dsimp only at RX0 RX1 RX2 RX3 RX4
    go_wp2_with fail
    refine (CA.out _).mono ?_
    rintro e w3 ⟨rfl, bb⟩
    replace RX := Lib.hid (row_below RX.out bb)
    replace HB := Lib.hid (below_then HB.out bb)
    clear bb
    clear RX0 RX1 RX2 RX3 RX4
    obtain ⟨w4, hw⟩ : ∃ w', w' = w3.alloc zeroRow := ⟨_, rfl⟩
    have RA : Hid (w4.heap[w3.heap.size]? = some zeroRow) := by rw [hw]; exact heap_alloc_new _ _
    have bb : Below w3.heap.size w3 w4 := by rw [hw]; exact below_new (Below.refl _ _) _
    replace hw := Lib.hid hw
    replace RX := Lib.hid (row_below RX.out bb)
    replace HB := Lib.hid (below_then HB.out bb)
    clear bb
    go_upto_region 3 with fail
    rw [show w3.alloc (Obj.cells #[Value.int .i64 0, .int .i64 0, .int .i64 0, .string ⟨#[]⟩, .slice none 0 0] 26) = w4 from hw.out.symm]
    clear hw
    generalize w3.heap.size = gRA at RA ⊢
    obtain ⟨RA0, RA1, RA2, RA3, RA4⟩ := cell_row5 RA.out
    try dsimp only at RA0 RA1 RA2 RA3 RA4
    go_wp2_with fail
    refine (same_self 0 0 0 noS _).mono ?_
    rintro e w5 ⟨rfl, bb⟩
    replace RX := Lib.hid (row_below RX.out bb)
    replace RA := Lib.hid (row_below RA.out bb)
    replace HB := Lib.hid (below_then HB.out bb)
    clear bb
    clear RA0 RA1 RA2 RA3 RA4
    obtain ⟨RA0, RA1, RA2, RA3, RA4⟩ := cell_row5 RA.out
    try dsimp only at RA0 RA1 RA2 RA3 RA4
    obtain ⟨RX0, RX1, RX2, RX3, RX4⟩ := cell_row5 RX.out
    try dsimp only at RX0 RX1 RX2 RX3 RX4
    by_cases h20 : E = 20
    · subst h20
      clear hE2
      go_wp2_with fail
      go_ret
      exact ⟨rfl, HB.out⟩
    · obtain rfl : E = r := by omega
      clear hE2
      go_wp2_with fail
      refine (CR.out _).mono ?_
      rintro e w6 ⟨rfl, bb⟩
      replace HB := Lib.hid (below_then HB.out bb)
      clear bb
      go_wp2_with fail
      go_ret
      exact ⟨rfl, HB.out⟩

set_option maxRecDepth 100000 in
theorem contract (H : Type) (enc : TypeId × Value → H) (W : World) (base : Nat) (args : Array Value) (ds gs : List (DataW H)) (before : List MemPlace)
    (hval : ∀ (j : Nat) t v, Try.f14.params[j]? = some t → args[j]? = some v → Value.okWide Try.prog W .any base t v)
    (hW : DataW.Whole enc Try.prog Try.f14.params.toList Rows.countBoundsSpec.vars false W args.toList ds gs before) :
    Calls Try.prog 14 args W fun e W' => ∃ v, e = .returned v ∧ Rows.countBoundsSpec.post enc Try.prog Try.f14 false true false false W args v W' := by
  have hlt : ∀ x ∈ before, x.block < W.heap.size := fun x hx => by simpa using hW.lt x hx
  refine law_step 4 Try.laid_ (by kernel_rfl) rfl Try.underlying4 rfl hW (fun xs hx => ?_) ?_
  · match xs, hx with
    | [d0, d1], _ => rfl
  · obtain ⟨p, q, hA0, hV, rfl, _, _⟩ := hW
    have hA : DataW.TrodAll enc Try.prog W 0 (fun _ => true) true Try.f14.params.toList args.toList ds p := hA0
    rw [Try.params14] at hA hval
    obtain ⟨v0, vs0, d0, ds0, p0, q0, e0, rfl, rfl, h0, r0⟩ := trodAll_cons hA
    obtain ⟨v1, vs1, d1, ds1, p1, q1, e1, rfl, rfl, h1, r1⟩ := trodAll_cons r0
    obtain ⟨rfl, rfl, rfl⟩ := trodAll_nil r1
    subst e1
    obtain rfl : args = #[v0, v1] := by cases args; simp_all
    clear e0 hA0
    obtain ⟨k0, u0, A0, n0, c0, l, rfl, rd0, wk0, wu0, wl0⟩ := open_cell (hval 0 26 v0 rfl rfl) h0
    obtain ⟨m, rfl, rfl, rfl, w1⟩ := open_int Try.underlying3 (hval 1 3 v1 rfl rfl) h1
    obtain ⟨lo1, hi1⟩ := wf_i64 w1
    exact walk k0 u0 A0 n0 c0 m W ⟨lo1, hi1⟩

set_option maxRecDepth 100000 in
theorem lifted (os : Os) (started : os.Started) (H : Type) (enc : TypeId × Value → H) :
    ReturnsInHanded {} Try.checked os 14 .any (Rows.countBoundsSpec.pre6 enc Try.prog Try.f14 Rows.countBoundsRow.domain false) (Rows.countBoundsSpec.post enc Try.prog Try.f14 false true false false) := by
  refine returnsInHanded_of_change (C := Try.checked) Try.own_ started (by kernel_rfl) Try.func14
    (ChangeSpec.witness6 (enc := enc) (C := Try.checked) false ⟨#[], #[.agg #[.int .i64 0, .int .i64 0, .int .i64 0, .string ⟨#[]⟩, .slice none 0 0], .int .i64 0], []⟩ 8 (by kernel_rfl) (by kernel_rfl) (by kernel_rfl) (by kernel_rfl)) ?_
  intro W base args ds gs before hval hW _ _
  exact contract H enc W base args ds gs before hval hW

theorem holds : Rows.CountBoundsSaid :=
  OpenClaim.holds_of_wide 14 Try.f14 rfl rfl rfl rfl rfl rfl rfl ⟨rfl, rfl, rfl, rfl, rfl⟩ rfl rfl rfl rfl rfl (by kernel_rfl) Try.func14 (by kernel_rfl)
    (of_decide_eq_true (by kernel_rfl)) (by unfold Func.isWrapper; first | (rw [if_pos (by decide +kernel)]; kernel_rfl) | (rw [if_neg (by decide +kernel)]; exact ⟨rfl, rfl⟩))
    (fun os started H enc _ => lifted os started H enc)
end Go.Proofs.Ytieaobeidlhefaa.countBounds
