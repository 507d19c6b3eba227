/- What is shown is one of the values, and none of them is greater; values rise. Of all cells. -/
import Derived.Test.YtieaobeidlhefaaRows
import Derived.Test.YtieaobeidlhefaaLaw
import Derived.Test.YtieaobeidlhefaaMulAlive
import Derived.Test.YtieaobeidlhefaaMbOpen
import Derived.Test.YtieaobeidlhefaaMulAllV
namespace Go.Proofs.Ytieaobeidlhefaa.multiGreatest
open Go.ChangeShapes Go.WideShapes Go.ChangeAt Go.RowKit Go.ChangeMaps

set_option maxRecDepth 100000 in
set_option maxHeartbeats 12800000 in
theorem walk (k : Int) (u : V3) (A : Option Addr) (n c : Nat) (l : List P11) (w : World) (h : RdP w A n c l) :
    Calls Try.prog 9 #[cellV k u (.slice A n c)] w fun e w' => e = .returned (.bool true) ∧ Below w.heap.size w w' := by
  have HB := Lib.hid (Below.refl w.heap.size w)
  have HLN := Lib.hid h.len
  have hle := h.le
  have RD := Lib.hid h
  clear h
  obtain ⟨r, hr⟩ : ∃ r, Hid ((decide (n ≤ 60) && l.all fun p => p.v.right) = r) := ⟨_, rfl⟩
  have CR : Hid (∀ W : World, RdP W A n c l → Calls Try.prog 31 #[cellV k u (.slice A n c)] W fun e w' => e = .returned (.bool r) ∧ Below W.heap.size W w') := by
    intro W hW; rw [← hr.out]; exact lawRight_any k u A n c l W hW
  cases r with
  | false =>
    clear hr
    obtain ⟨g, hg⟩ : ∃ g, g = w.heap.size := ⟨_, rfl⟩
    obtain ⟨w0, hw0⟩ : ∃ w1, w1 = (w.alloc (cellRow k u (.slice A n c))) := ⟨_, rfl⟩
    have HW0 := Lib.hid hw0; have HG := Lib.hid hg
    have hat : ∀ (w : World) (o : Obj) (g : Nat), w.heap.size = g → (w.alloc o).heap[g]? = some o := fun w o g h => by subst h; exact heap_alloc_new _ _
    have bb : Below w.heap.size w w0 := by rw [hw0]; exact below_new (Below.refl _ _) _
    have RX : Hid (w0.heap[g]? = some (cellRow k u (.slice A n c))) := by
      show _ = _
      rw [hw0, hg]
      skip
      exact hat _ _ _ rfl
    replace RD := Lib.hid (RD.out.below bb)
    replace HB := Lib.hid (below_then HB.out bb)
    clear bb hg hw0 hat
    go_enter Try.func9, Try.ntmps9
    go_upto_region 1 with fail
    rw [← HG.out]
    rw [show (w.alloc (Obj.cells #[Value.int .i64 k, .int .i64 u.k, .int .i64 u.n, .string u.s, .slice A n c] 26)) = w0 from HW0.out.symm]
    clear HW0
    obtain ⟨RX0, RX1, RX2, RX3, RX4⟩ := cell_row5 RX.out
    go_wp2_with fail
    refine (CR.out _ RD.out).mono ?_
    rintro e v1 ⟨rfl, bb⟩
    replace RX := Lib.hid (row_below RX.out bb)
    replace RD := Lib.hid (RD.out.below bb)
    replace HB := Lib.hid (below_then HB.out bb)
    clear bb
    clear RX0 RX1 RX2 RX3 RX4
    go_wp2_with fail
    refine (alive7_any _).mono ?_
    rintro e v2 ⟨rfl, bb⟩
    replace RX := Lib.hid (row_below RX.out bb)
    replace RD := Lib.hid (RD.out.below bb)
    replace HB := Lib.hid (below_then HB.out bb)
    clear bb
    go_wp2_with fail
    go_ret
    exact ⟨rfl, HB.out⟩
  | true =>
  have hn60 : n ≤ 60 := by have := hr.out; simp only [Bool.and_eq_true, decide_eq_true_eq] at this; exact this.1
  clear hr
  by_cases hn0 : n = 0
  · have hnb : ((n : Int) == 0) = true := by simp [hn0]
    have HN0 := Lib.hid hn0
    clear hn0
    obtain ⟨g, hg⟩ : ∃ g, g = w.heap.size := ⟨_, rfl⟩
    obtain ⟨w0, hw0⟩ : ∃ w1, w1 = (w.alloc (cellRow k u (.slice A n c))) := ⟨_, rfl⟩
    have HW0 := Lib.hid hw0; have HG := Lib.hid hg
    have hat : ∀ (w : World) (o : Obj) (g : Nat), w.heap.size = g → (w.alloc o).heap[g]? = some o := fun w o g h => by subst h; exact heap_alloc_new _ _
    have bb : Below w.heap.size w w0 := by rw [hw0]; exact below_new (Below.refl _ _) _
    have RX : Hid (w0.heap[g]? = some (cellRow k u (.slice A n c))) := by
      show _ = _
      rw [hw0, hg]
      skip
      exact hat _ _ _ rfl
    replace RD := Lib.hid (RD.out.below bb)
    replace HB := Lib.hid (below_then HB.out bb)
    clear bb hg hw0 hat
    go_enter Try.func9, Try.ntmps9
    go_upto_region 1 with fail
    rw [← HG.out]
    rw [show (w.alloc (Obj.cells #[Value.int .i64 k, .int .i64 u.k, .int .i64 u.n, .string u.s, .slice A n c] 26)) = w0 from HW0.out.symm]
    clear HW0
    obtain ⟨RX0, RX1, RX2, RX3, RX4⟩ := cell_row5 RX.out
    go_wp2_with fail
    refine (CR.out _ RD.out).mono ?_
    rintro e v1 ⟨rfl, bb⟩
    replace RX := Lib.hid (row_below RX.out bb)
    replace RD := Lib.hid (RD.out.below bb)
    replace HB := Lib.hid (below_then HB.out bb)
    clear bb
    clear RX0 RX1 RX2 RX3 RX4
    obtain ⟨RX0, RX1, RX2, RX3, RX4⟩ := cell_row5 RX.out
    go_wp2_with fail
    refine (alive7_any _).mono ?_
    rintro e v2 ⟨rfl, bb⟩
    replace RX := Lib.hid (row_below RX.out bb)
    replace RD := Lib.hid (RD.out.below bb)
    replace HB := Lib.hid (below_then HB.out bb)
    clear bb
    go_wp2_with fail
    go_ret
    exact ⟨rfl, HB.out⟩
  · have hnb : ((n : Int) == 0) = false := by simp [hn0]
    have hne : l.map P11.val ≠ [] := by
      intro e
      have h1 : (l.map P11.val).length = 0 := by rw [e]; rfl
      rw [List.length_map, HLN.out] at h1
      exact hn0 h1
    obtain ⟨s, hs⟩ : ∃ s, topL (l.map P11.val) = s := ⟨_, rfl⟩
    obtain ⟨L, hL⟩ : ∃ L, dd (srtV (l.map P11.val)) = L := ⟨_, rfl⟩
    have hmem : ∀ v, v ∈ L ↔ v ∈ l.map P11.val := fun v => by rw [← hL, dd_mem, srtV_mem]
    have hrise : Hid (L.Pairwise fun a b => ltV a b = true) := by rw [← hL]; exact dd_rise (srtV_sorted _)
    have hsm : Hid (s ∈ l.map P11.val) := by rw [← hs]; exact topL_mem hne
    have htop : Hid (∀ p ∈ l, ltV s p.v = false) := fun p hp => by rw [← hs]; exact topL_top (List.mem_map.2 ⟨p, hp, rfl⟩)
    have hlast : Hid (L[L.length - 1]? = some s) := last_is hrise.out ((hmem s).2 hsm.out) (fun v hv => by
      obtain ⟨p, hp, e⟩ := List.mem_map.1 ((hmem v).1 hv)
      subst e; exact htop.out p hp)
    have hLne : Hid (0 < L.length) := by
      have := (List.getElem?_eq_some_iff.1 hlast.out).1
      show _ < _; omega
    have SH : Hid (∀ W : World, RdP W A n c l → Calls Try.prog 32 #[cellV k u (.slice A n c)] W fun e w' => e = .returned (.agg #[.int .i64 s.k, .int .i64 s.n, .string s.s]) ∧ Below W.heap.size W w') := by
      intro W hW; rw [← hs]; exact show_any k u A n c l W hW
    have VA : Hid (∀ W : World, RdP W A n c l → Calls Try.prog 33 #[cellV k u (.slice A n c)] W fun e w' => ∃ A' m c', e = .returned (.slice A' m c') ∧ RdV w' A' m c' L ∧ Below W.heap.size W w' ∧ ∃ g, A' = some ⟨g, 0, none⟩ ∧ W.heap.size ≤ g) := by
      intro W hW; rw [← hL]; exact valuesAll_any k u A n c l W hW (by omega)
    clear hs hL hmem hne
    obtain ⟨g, hg⟩ : ∃ g, g = w.heap.size := ⟨_, rfl⟩
    obtain ⟨w0, hw0⟩ : ∃ w1, w1 = (w.alloc (cellRow k u (.slice A n c))) := ⟨_, rfl⟩
    have HW0 := Lib.hid hw0; have HG := Lib.hid hg
    have hat : ∀ (w : World) (o : Obj) (g : Nat), w.heap.size = g → (w.alloc o).heap[g]? = some o := fun w o g h => by subst h; exact heap_alloc_new _ _
    have bb : Below w.heap.size w w0 := by rw [hw0]; exact below_new (Below.refl _ _) _
    have RX : Hid (w0.heap[g]? = some (cellRow k u (.slice A n c))) := by
      show _ = _
      rw [hw0, hg]
      skip
      exact hat _ _ _ rfl
    replace RD := Lib.hid (RD.out.below bb)
    replace HB := Lib.hid (below_then HB.out bb)
    clear bb hg hw0 hat
    go_enter Try.func9, Try.ntmps9
    go_upto_region 1 with fail
    rw [← HG.out]
    rw [show (w.alloc (Obj.cells #[Value.int .i64 k, .int .i64 u.k, .int .i64 u.n, .string u.s, .slice A n c] 26)) = w0 from HW0.out.symm]
    clear HW0
    obtain ⟨RX0, RX1, RX2, RX3, RX4⟩ := cell_row5 RX.out
    go_wp2_with fail
    refine (CR.out _ RD.out).mono ?_
    rintro e v1 ⟨rfl, bb⟩
    replace RX := Lib.hid (row_below RX.out bb)
    replace RD := Lib.hid (RD.out.below bb)
    replace HB := Lib.hid (below_then HB.out bb)
    clear bb
    clear RX0 RX1 RX2 RX3 RX4
    obtain ⟨RX0, RX1, RX2, RX3, RX4⟩ := cell_row5 RX.out
    go_upto_region 3 with fail
    go_cut [3, 4] from 19 to 22 (fun p t wz => ∃ gs g9 m c2, p = .pointer (some ⟨gs, 0, none⟩) ∧ t = .slice (some ⟨g9, 0, none⟩) m c2 ∧ Hid (wz.heap[gs]? = some (valRow s)) ∧ Hid (RdV wz (some ⟨g9, 0, none⟩) m c2 L) ∧ Hid (Below v1.heap.size v1 wz))
    case first =>
      have hgl : g < v1.heap.size := block_lt_of_cell RX0
      go_region_with (first
        | (go_at_call 32; refine (SH.out _ (RD.out.below (by first | exact (Below.refl _ _).drew | exact ((Below.refl _ _).alloc (Nat.le_refl _) _).drew))).mono ?_; rintro e wx ⟨rfl, bb⟩; have bx := below_then (by first | exact (Below.refl v1.heap.size v1).drew | exact ((Below.refl v1.heap.size v1).alloc (Nat.le_refl _) _).drew) bb; (try (have hz9 := row_below (o := valRow zeroVal) (by exact heap_alloc_new _ _) bb; (try simp only [World.size_alloc] at hz9); have HZ := Lib.hid hz9; clear hz9)); clear bb; have hr := row_below RX.out bx; obtain ⟨x0, x1, x2, x3, x4⟩ := cell_row5 hr; have hgx : g < wx.heap.size := block_lt_of_cell x0; (try have hzl := (Array.getElem?_eq_some_iff.1 HZ.out).1); clear hr)
        | (go_at_call 33; refine (VA.out _ (by first | exact RD.out.below bx | exact RD.out.below (below_new bx _))).mono ?_; rintro e wy ⟨A9, m, c2, rfl, hrv, bb, g9, rfl, hfr⟩; (try simp only [World.size_alloc] at hfr); have by2 : Below wx.heap.size wx wy := (by first | exact bb | exact below_then (below_new (Below.refl _ _) _) bb); (first | (have HZ9 := Lib.hid (row_below HZ.out by2)) | (have hz9 := row_below (o := valRow zeroVal) (by exact heap_alloc_new _ _) bb; have HZ9 := Lib.hid hz9; clear hz9) | skip); (try (obtain ⟨e0, e1, e2⟩ := val_row HZ9.out; have f0 := frozen_row HZ9.out)); clear bb; have HRV := Lib.hid hrv; have HB9 := Lib.hid (below_then bx by2); clear hrv))
      all_goals
        first
          | (have T1 := Lib.hid (val3 (x := .int .i64 s.k) (y := .int .i64 s.n) (z := .string s.s) HZ9.out)
             have z2 := bx.size
             have T2 := HRV.out
             have T4 := HB9.out
             clear RX0 RX1 RX2 RX3 RX4 x0 x1 x2 x3 x4 e0 e1 e2 f0 SH VA CR
             go_wp2_with fail
             go_meet
             exact ⟨_, _, _, _, rfl, rfl, T1, rdv_set3 T2 (by omega) _ _ _, below_set3 T4 (by omega)⟩)
          | (have T1 := Lib.hid (heap_alloc_new wy (valRow s))
             have T2 := HRV.out.alloc (valRow s)
             have T4 := below_new HB9.out (valRow s)
             clear RX0 RX1 RX2 RX3 RX4 x0 x1 x2 x3 x4 SH VA CR
             go_wp2_with fail
             go_meet
             exact ⟨_, _, _, _, rfl, rfl, T1, T2, T4⟩)
    case rest =>
    obtain ⟨gs, g9, m, c2, rfl, rfl, hR1, hR2, hR3⟩ := hcut
    clear SH VA CR RX0 RX1 RX2 RX3 RX4
    replace RX := Lib.hid (row_below RX.out hR3.out)
    replace RD := Lib.hid (RD.out.below hR3.out)
    replace HB := Lib.hid (below_then HB.out hR3.out)
    have RS := hR1; have RV := hR2
    clear hR1 hR2 hR3
    have hmL : Hid (L.length = m) := RV.out.len
    have hm1 : 0 < m := by rw [← hmL.out]; exact hLne.out
    generalize wc = v20 at RX RD HB RS RV ⊢
    go_wp2_with fail
    go_loopw [5] (fun v wr => ∃ k1 : Nat, 0 < k1 ∧ k1 ≤ m ∧ v = .int .i64 k1 ∧ Hid (Below v20.heap.size v20 wr)) (fun v _ => m - (intOf v).toNat)
    case atStart => exact ⟨1, by omega, by omega, rfl, Below.refl _ _⟩
    case round =>
      obtain ⟨k1, hk0, hk, rfl, hbel⟩ := hrel
      by_cases hlt : k1 < m
      · obtain ⟨j1, hj⟩ : ∃ j, k1 = j + 1 := ⟨k1 - 1, by omega⟩
        obtain ⟨b, o, x, he0, hb, hx, hld⟩ := RV.out.val hlt
        obtain ⟨b', o', y, he, _, hy, hldy⟩ := RV.out.val (show j1 < m by omega)
        injection he0 with he0
        injection he0 with e3 e4
        injection he with he
        injection he with e1 e2
        subst e3; subst e4; subst e1; subst e2
        obtain ⟨x0, x1, x2⟩ := hld wr hbel.out
        obtain ⟨y0, y1, y2⟩ := hldy wr hbel.out
        rw [Nat.zero_add] at x0 x1 x2 y0 y1 y2
        have hxy : ltV y x = true := next_lt hrise.out hy (by rw [← hj]; exact hx)
        have CL : Hid (∀ W : World, Calls Try.prog 34 #[.agg #[.int .i64 y.k, .int .i64 y.n, .string y.s], .agg #[.int .i64 x.k, .int .i64 x.n, .string x.s]] W fun e w' => e = .returned (.bool true) ∧ Below W.heap.size W w') := by
          intro W
          have := refLess_any y.k y.n x.k x.n y.s x.s W
          rw [show lessZ y.k y.n y.s x.k x.n x.s = true from hxy] at this
          exact this
        have z1 : (0 : Int) ≤ (k1 : Int) - 1 := by omega
        have z2 : (k1 : Int) - 1 < (m : Int) := by omega
        have z3 : ((k1 : Int) - 1).toNat = j1 := by omega
        have z4 : IntKind.i64.wrap ((k1 : Int) - 1) = (k1 : Int) - 1 := wrap_is (by have := RV.out.le; omega)
        have z5 : (k1 : Int) < (m : Int) := by omega
        have z6 : (1 : Int) ≤ (k1 : Int) := by omega
        have z7 : 1 ≤ k1 := by omega
        have z8 : k1 - 1 = j1 := by omega
        have hmle := RV.out.le
        have q9 : IntKind.i64.wrap ((k1 : Int) + 1) = (k1 : Int) + 1 := wrap_is (by omega)
        have hS0 : Below wr.heap.size wr wr ∧ wr.cell? ⟨g9, k1 * 3, none⟩ = some (.int .i64 x.k) ∧ wr.cell? ⟨g9, k1 * 3 + 1, none⟩ = some (.int .i64 x.n) ∧ wr.cell? ⟨g9, k1 * 3 + 2, none⟩ = some (.string x.s) ∧ wr.cell? ⟨g9, j1 * 3, none⟩ = some (.int .i64 y.k) ∧ wr.cell? ⟨g9, j1 * 3 + 1, none⟩ = some (.int .i64 y.n) ∧ wr.cell? ⟨g9, j1 * 3 + 2, none⟩ = some (.string y.s) := ⟨Below.refl _ _, x0, x1, x2, y0, y1, y2⟩
        have K : Hid (∀ W W' : World, (Below wr.heap.size wr W ∧ W.cell? ⟨g9, k1 * 3, none⟩ = some (.int .i64 x.k) ∧ W.cell? ⟨g9, k1 * 3 + 1, none⟩ = some (.int .i64 x.n) ∧ W.cell? ⟨g9, k1 * 3 + 2, none⟩ = some (.string x.s) ∧ W.cell? ⟨g9, j1 * 3, none⟩ = some (.int .i64 y.k) ∧ W.cell? ⟨g9, j1 * 3 + 1, none⟩ = some (.int .i64 y.n) ∧ W.cell? ⟨g9, j1 * 3 + 2, none⟩ = some (.string y.s)) → Below W.heap.size W W' → (Below wr.heap.size wr W' ∧ W'.cell? ⟨g9, k1 * 3, none⟩ = some (.int .i64 x.k) ∧ W'.cell? ⟨g9, k1 * 3 + 1, none⟩ = some (.int .i64 x.n) ∧ W'.cell? ⟨g9, k1 * 3 + 2, none⟩ = some (.string x.s) ∧ W'.cell? ⟨g9, j1 * 3, none⟩ = some (.int .i64 y.k) ∧ W'.cell? ⟨g9, j1 * 3 + 1, none⟩ = some (.int .i64 y.n) ∧ W'.cell? ⟨g9, j1 * 3 + 2, none⟩ = some (.string y.s))) := by
          rintro W W' ⟨kk, k0, k1, k2, k3, k4, k5⟩ hb
          have hc : ∀ (p : Addr) (y : Value), W.cell? p = some y → W'.cell? p = some y := fun p y h2 => (hb.cell (World.block_lt_of_cell? _ _ h2)).trans h2
          exact ⟨below_then kk hb, hc _ _ k0, hc _ _ k1, hc _ _ k2, hc _ _ k3, hc _ _ k4, hc _ _ k5⟩
        clear hx hy hld hldy hxy hj
        go_wp2_with fail
        go_region_held3 (fun W => Below wr.heap.size wr W ∧ W.cell? ⟨g9, k1 * 3, none⟩ = some (.int .i64 x.k) ∧ W.cell? ⟨g9, k1 * 3 + 1, none⟩ = some (.int .i64 x.n) ∧ W.cell? ⟨g9, k1 * 3 + 2, none⟩ = some (.string x.s) ∧ W.cell? ⟨g9, j1 * 3, none⟩ = some (.int .i64 y.k) ∧ W.cell? ⟨g9, j1 * 3 + 1, none⟩ = some (.int .i64 y.n) ∧ W.cell? ⟨g9, j1 * 3 + 2, none⟩ = some (.string y.s))
          (first
            | exact K.out _ _ hS0 ((Below.refl _ _).drew)
            | exact K.out _ _ (by assumption) bb
            | assumption)
          (first
            | (go_at_call 34; refine (CL.out _).mono ?_; rintro e wx ⟨rfl, bb⟩))
        have hSz : Below wr.heap.size wr wx ∧ wx.cell? ⟨g9, k1 * 3, none⟩ = some (.int .i64 x.k) ∧ wx.cell? ⟨g9, k1 * 3 + 1, none⟩ = some (.int .i64 x.n) ∧ wx.cell? ⟨g9, k1 * 3 + 2, none⟩ = some (.string x.s) ∧ wx.cell? ⟨g9, j1 * 3, none⟩ = some (.int .i64 y.k) ∧ wx.cell? ⟨g9, j1 * 3 + 1, none⟩ = some (.int .i64 y.n) ∧ wx.cell? ⟨g9, j1 * 3 + 2, none⟩ = some (.string y.s) := by assumption
        have B3 := Lib.hid (below_then hbel.out hSz.1)
        clear z1 z2 z3 z4 z5 z6 z7 z8 hS0 K x0 x1 x2 y0 y1 y2 CL
        go_wp2_with fail
        exact ⟨⟨k1 + 1, by omega, by omega, by go_num, B3⟩, by simp [intOf]; omega⟩
      · replace RX := Lib.hid (row_below RX.out hbel.out)
        replace RS := Lib.hid (row_below RS.out hbel.out)
        replace RD := Lib.hid (RD.out.below hbel.out)
        replace RV := Lib.hid (RV.out.below hbel.out)
        replace HB := Lib.hid (below_then HB.out hbel.out)
        have hbw := Lib.hid hbel
        obtain ⟨wq, hwq⟩ : ∃ wq, wq = wr := ⟨_, rfl⟩
        subst hwq
        clear hbel hbw
        obtain ⟨RX0, RX1, RX2, RX3, RX4⟩ := cell_row5 RX.out
        go_wp2_with fail
        go_loopw [6, 43] (fun f i wr => ∃ (j : Nat) (t : Bool), j ≤ n ∧ i = .int .i64 j ∧ f = .bool t ∧ Hid (t = (l.take j).any fun p => decide (p.v = s)) ∧ Hid (Below wq.heap.size wq wr)) (fun _ i _ => n - (intOf i).toNat)
        case atStart => exact ⟨0, false, Nat.zero_le _, rfl, rfl, by show _ = _; simp, Below.refl _ _⟩
        case round =>
          clear RX0 RX1 RX2 RX3 RX4
          obtain ⟨j, t, hj, rfl, rfl, ht, hbel⟩ := hrel
          replace RX := Lib.hid (row_below RX.out hbel.out)
          replace RS := Lib.hid (row_below RS.out hbel.out)
          replace RV := Lib.hid (RV.out.below hbel.out)
          replace HB := Lib.hid (below_then HB.out hbel.out)
          by_cases hlt : j < n
          · obtain ⟨b, o, x, rfl, hb, hx, hld⟩ := RD.out.part hlt
            obtain ⟨e0, e1, e2, e3, e4, e5, e6, e7, e8, e9, e10⟩ := hld wr hbel.out
            have HX := Lib.hid hx
            have HBV := Lib.hid hbel.out
            clear hx hld hbel
            obtain ⟨v41, hw⟩ : ∃ w', w' = wr.alloc (partCells x) := ⟨_, rfl⟩
            have RQ : Hid (v41.heap[wr.heap.size]? = some (partCells x)) := by rw [hw]; exact heap_alloc_new _ _
            have bb : Below wr.heap.size wr v41 := by rw [hw]; exact below_new (Below.refl _ _) _
            replace hw := Lib.hid hw
            replace RX := Lib.hid (row_below RX.out bb)
            replace RS := Lib.hid (row_below RS.out bb)
            replace RV := Lib.hid (RV.out.below bb)
            replace HB := Lib.hid (below_then HB.out bb)
            replace HBV := Lib.hid (below_then HBV.out bb)
            clear bb
            go_upto_region 13 with fail
            rw [show wr.alloc (Obj.cells #[Value.int .i64 x.v.k, .int .i64 x.v.n, .string x.v.s, .int .i64 x.d.d, .int .i64 x.d.s, .int .i64 x.i, .int .i64 x.t, .int .i64 x.a.d, .int .i64 x.a.s, .int .i64 x.j, .bool x.g] 32) = v41 from hw.out.symm]
            clear hw
            generalize wr.heap.size = gRQ at RQ ⊢
            clear e0 e1 e2 e3 e4 e5 e6 e7 e8 e9 e10
            obtain ⟨RQ0, RQ1, RQ2, RQ3, RQ4, RQ5, RQ6, RQ7, RQ8, RQ9, RQ10⟩ := part_row RQ.out
            obtain ⟨RS0, RS1, RS2⟩ := val_row RS.out
            obtain ⟨e, he⟩ : ∃ e, Hid (decide (x.v = s) = e) := ⟨_, rfl⟩
            have EQ := run_equalIn_val x.v.k x.v.n s.k s.n x.v.s s.s
            rw [sameZ_iff, he.out] at EQ
            have hst : Hid (((l.take (j + 1)).any fun p => decide (p.v = s)) = (t || e)) := by
              show _ = _
              rw [List.take_add_one, HX.out, List.any_append, ← ht.out]; simp [he.out]
            have CL : Hid (∀ W : World, Calls Try.prog 34 #[.agg #[.int .i64 s.k, .int .i64 s.n, .string s.s], .agg #[.int .i64 x.v.k, .int .i64 x.v.n, .string x.v.s]] W fun e w' => e = .returned (.bool false) ∧ Below W.heap.size W w') := by
              intro W
              have := refLess_any s.k s.n x.v.k x.v.n s.s x.v.s W
              rw [show lessZ s.k s.n s.s x.v.k x.v.n x.v.s = false from htop.out x (List.mem_of_getElem? HX.out)] at this
              exact this
            cases t with
            | true =>
              have ht2 : Hid (true = (l.take (j + 1)).any fun p => decide (p.v = s)) := by show _ = _; rw [hst.out]; rfl
              go_wp2_with fail
              refine (CL.out _).mono ?_
              rintro e v42 ⟨rfl, bb⟩
              replace RX := Lib.hid (row_below RX.out bb)
              replace RS := Lib.hid (row_below RS.out bb)
              replace RQ := Lib.hid (row_below RQ.out bb)
              replace RV := Lib.hid (RV.out.below bb)
              replace HB := Lib.hid (below_then HB.out bb)
              replace HBV := Lib.hid (below_then HBV.out bb)
              clear bb
              go_wp2_with fail
              exact ⟨⟨j + 1, true, by omega, by go_num, rfl, ht2, HBV⟩, by simp [intOf]; omega⟩
            | false =>
              cases e with
              | true =>
                have ht2 : Hid (true = (l.take (j + 1)).any fun p => decide (p.v = s)) := by show _ = _; rw [hst.out]; rfl
                go_wp2_with fail
                refine (CL.out _).mono ?_
                rintro e v42 ⟨rfl, bb⟩
                replace RX := Lib.hid (row_below RX.out bb)
                replace RS := Lib.hid (row_below RS.out bb)
                replace RQ := Lib.hid (row_below RQ.out bb)
                replace RV := Lib.hid (RV.out.below bb)
                replace HB := Lib.hid (below_then HB.out bb)
                replace HBV := Lib.hid (below_then HBV.out bb)
                clear bb
                go_wp2_with fail
                exact ⟨⟨j + 1, true, by omega, by go_num, rfl, ht2, HBV⟩, by simp [intOf]; omega⟩
              | false =>
                have ht2 : Hid (false = (l.take (j + 1)).any fun p => decide (p.v = s)) := by show _ = _; rw [hst.out]; rfl
                go_wp2_with fail
                refine (CL.out _).mono ?_
                rintro e v42 ⟨rfl, bb⟩
                replace RX := Lib.hid (row_below RX.out bb)
                replace RS := Lib.hid (row_below RS.out bb)
                replace RQ := Lib.hid (row_below RQ.out bb)
                replace RV := Lib.hid (RV.out.below bb)
                replace HB := Lib.hid (below_then HB.out bb)
                replace HBV := Lib.hid (below_then HBV.out bb)
                clear bb
                go_wp2_with fail
                exact ⟨⟨j + 1, false, by omega, by go_num, rfl, ht2, HBV⟩, by simp [intOf]; omega⟩
          · obtain rfl : j = n := by omega
            have htt : Hid (t = true) := by
              show _ = _
              rw [ht.out, List.take_of_length_le (by rw [HLN.out]; exact Nat.le_refl _)]
              obtain ⟨p, hp, e⟩ := List.mem_map.1 hsm.out
              exact List.any_eq_true.2 ⟨p, hp, decide_eq_true e⟩
            obtain rfl : t = true := htt.out
            obtain ⟨b, o, x, he0, hb, hx, hld⟩ := RV.out.val (show m - 1 < m by omega)
            injection he0 with he0
            injection he0 with e3 e4
            subst e3; subst e4
            obtain rfl : x = s := by
              have h1 := hlast.out
              rw [hmL.out, hx] at h1
              injection h1
            obtain ⟨x0, x1, x2⟩ := hld wr (Below.refl _ _)
            rw [Nat.zero_add] at x0 x1 x2
            obtain ⟨s0, s1, s2⟩ := val_row RS.out
            have EQ := run_equalIn_val x.k x.n x.k x.n x.s x.s
            rw [sameZ_iff, decide_eq_true rfl] at EQ
            have hmle := RV.out.le
            have z0 : (1 : Int) ≤ (m : Int) := by omega
            have z00 : 1 ≤ m := by omega
            have z1 : (0 : Int) ≤ (m : Int) - 1 := by omega
            have z2 : (m : Int) - 1 < (m : Int) := by omega
            have z3 : ((m : Int) - 1).toNat = m - 1 := by omega
            have z4 : IntKind.i64.wrap ((m : Int) - 1) = (m : Int) - 1 := wrap_is (by omega)
            have hS0 : Below wr.heap.size wr wr ∧ wr.cell? ⟨gs, 0, none⟩ = some (.int .i64 x.k) ∧ wr.cell? ⟨gs, 1, none⟩ = some (.int .i64 x.n) ∧ wr.cell? ⟨gs, 2, none⟩ = some (.string x.s) ∧ wr.cell? ⟨g9, (m - 1) * 3, none⟩ = some (.int .i64 x.k) ∧ wr.cell? ⟨g9, (m - 1) * 3 + 1, none⟩ = some (.int .i64 x.n) ∧ wr.cell? ⟨g9, (m - 1) * 3 + 2, none⟩ = some (.string x.s) := ⟨Below.refl _ _, s0, s1, s2, x0, x1, x2⟩
            have K : Hid (∀ W W' : World, (Below wr.heap.size wr W ∧ W.cell? ⟨gs, 0, none⟩ = some (.int .i64 x.k) ∧ W.cell? ⟨gs, 1, none⟩ = some (.int .i64 x.n) ∧ W.cell? ⟨gs, 2, none⟩ = some (.string x.s) ∧ W.cell? ⟨g9, (m - 1) * 3, none⟩ = some (.int .i64 x.k) ∧ W.cell? ⟨g9, (m - 1) * 3 + 1, none⟩ = some (.int .i64 x.n) ∧ W.cell? ⟨g9, (m - 1) * 3 + 2, none⟩ = some (.string x.s)) → Below W.heap.size W W' → (Below wr.heap.size wr W' ∧ W'.cell? ⟨gs, 0, none⟩ = some (.int .i64 x.k) ∧ W'.cell? ⟨gs, 1, none⟩ = some (.int .i64 x.n) ∧ W'.cell? ⟨gs, 2, none⟩ = some (.string x.s) ∧ W'.cell? ⟨g9, (m - 1) * 3, none⟩ = some (.int .i64 x.k) ∧ W'.cell? ⟨g9, (m - 1) * 3 + 1, none⟩ = some (.int .i64 x.n) ∧ W'.cell? ⟨g9, (m - 1) * 3 + 2, none⟩ = some (.string x.s))) := by
              rintro W W' ⟨kk, k0, k1, k2, k3, k4, k5⟩ hb
              have hc : ∀ (p : Addr) (y : Value), W.cell? p = some y → W'.cell? p = some y := fun p y h2 => (hb.cell (World.block_lt_of_cell? _ _ h2)).trans h2
              exact ⟨below_then kk hb, hc _ _ k0, hc _ _ k1, hc _ _ k2, hc _ _ k3, hc _ _ k4, hc _ _ k5⟩
            clear hx hld ht htt hbel
            go_upto_region 17 with fail
            go_region_held3 (fun W => Below wr.heap.size wr W ∧ W.cell? ⟨gs, 0, none⟩ = some (.int .i64 x.k) ∧ W.cell? ⟨gs, 1, none⟩ = some (.int .i64 x.n) ∧ W.cell? ⟨gs, 2, none⟩ = some (.string x.s) ∧ W.cell? ⟨g9, (m - 1) * 3, none⟩ = some (.int .i64 x.k) ∧ W.cell? ⟨g9, (m - 1) * 3 + 1, none⟩ = some (.int .i64 x.n) ∧ W.cell? ⟨g9, (m - 1) * 3 + 2, none⟩ = some (.string x.s))
              (first
                | exact K.out _ _ hS0 ((Below.refl _ _).drew)
                | exact K.out _ _ (by assumption) bb
                | assumption)
              (first
                | (go_at_call 16; refine (alive7_any _).mono ?_; rintro e wx ⟨rfl, bb⟩))
            have hSz : Below wr.heap.size wr wx ∧ wx.cell? ⟨gs, 0, none⟩ = some (.int .i64 x.k) ∧ wx.cell? ⟨gs, 1, none⟩ = some (.int .i64 x.n) ∧ wx.cell? ⟨gs, 2, none⟩ = some (.string x.s) ∧ wx.cell? ⟨g9, (m - 1) * 3, none⟩ = some (.int .i64 x.k) ∧ wx.cell? ⟨g9, (m - 1) * 3 + 1, none⟩ = some (.int .i64 x.n) ∧ wx.cell? ⟨g9, (m - 1) * 3 + 2, none⟩ = some (.string x.s) := by assumption
            have HZ := below_then HB.out hSz.1
            go_wp2_with fail
            go_ret
            exact ⟨rfl, HZ⟩

set_option maxRecDepth 100000 in
theorem contract (H : Type) (enc : TypeId × Value → H) (W : World) (base : Nat) (args : Array Value) (ds gs : List (DataW H)) (before : List MemPlace)
    (hval : ∀ (j : Nat) t v, Try.f9.params[j]? = some t → args[j]? = some v → Value.okWide Try.prog W .any base t v)
    (hW : DataW.Whole enc Try.prog Try.f9.params.toList Rows.multiGreatestSpec.vars false W args.toList ds gs before) :
    Calls Try.prog 9 args W fun e W' => ∃ v, e = .returned v ∧ Rows.multiGreatestSpec.post enc Try.prog Try.f9 false true false false W args v W' := by
  have hlt : ∀ x ∈ before, x.block < W.heap.size := fun x hx => by simpa using hW.lt x hx
  refine law_step 4 Try.laid_ (by kernel_rfl) rfl Try.underlying4 rfl hW (fun xs hx => ?_) ?_
  · match xs, hx with
    | [d0], _ => rfl
  · obtain ⟨p, q, hA0, hV, rfl, _, _⟩ := hW
    have hA : DataW.TrodAll enc Try.prog W 0 (fun _ => true) true Try.f9.params.toList args.toList ds p := hA0
    rw [Try.params9] at hA hval
    obtain ⟨v0, vs0, d0, ds0, p0, q0, e0, rfl, rfl, h0, r0⟩ := trodAll_cons hA
    obtain ⟨rfl, rfl, rfl⟩ := trodAll_nil r0
    obtain rfl : args = #[v0] := by cases args; simp_all
    clear e0 hA0
    obtain ⟨k0, u0, A0, n0, c0, l, rfl, rd0, wk0, wu0, wl0⟩ := open_cell (hval 0 26 v0 rfl rfl) h0
    exact walk k0 u0 A0 n0 c0 l W rd0

set_option maxRecDepth 100000 in
theorem lifted (os : Os) (started : os.Started) (H : Type) (enc : TypeId × Value → H) :
    ReturnsInHanded {} Try.checked os 9 .any (Rows.multiGreatestSpec.pre6 enc Try.prog Try.f9 Rows.multiGreatestRow.domain false) (Rows.multiGreatestSpec.post enc Try.prog Try.f9 false true false false) := by
  refine returnsInHanded_of_change (C := Try.checked) Try.own_ started (by kernel_rfl) Try.func9
    (ChangeSpec.witness6 (enc := enc) (C := Try.checked) false ⟨#[], #[.agg #[.int .i64 0, .int .i64 0, .int .i64 0, .string ⟨#[]⟩, .slice none 0 0]], []⟩ 8 (by kernel_rfl) (by kernel_rfl) (by kernel_rfl) (by kernel_rfl)) ?_
  intro W base args ds gs before hval hW _ _
  exact contract H enc W base args ds gs before hval hW

theorem holds : Rows.MultiGreatestSaid :=
  OpenClaim.holds_of_wide 9 Try.f9 rfl rfl rfl rfl rfl rfl rfl ⟨rfl, rfl, rfl, rfl, rfl⟩ rfl rfl rfl rfl rfl (by kernel_rfl) Try.func9 (by kernel_rfl)
    (of_decide_eq_true (by kernel_rfl)) (by unfold Func.isWrapper; first | (rw [if_pos (by decide +kernel)]; kernel_rfl) | (rw [if_neg (by decide +kernel)]; exact ⟨rfl, rfl⟩))
    (fun os started H enc _ => lifted os started H enc)
end Go.Proofs.Ytieaobeidlhefaa.multiGreatest
