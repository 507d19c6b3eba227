/- Nothing else is read: a text that is read, and bytes that are got, are just what the value shows, and has: ValueWhole answers true. No condition. -/
import Derived.Test.YtkicjhphiibifaaDoorCards
import Derived.Test.YtkicjhphiibifaaDoorLaid
import Derived.Lib.SmallJoins
import Derived.Test.YtkicjhphiibifaaDoorValGetMath
import Derived.Test.YtkicjhphiibifaaDoorValAwake
namespace Go.Proofs.YtkicjhphiibifaaDoor.valueWhole
open Go.ChangeShapes Go.WideShapes Go.ChangeAt Go.RowKit Go.ChangeMaps
set_option maxRecDepth 100000

theorem row_drew {w : World} {g : Nat} {o : Obj} (h : w.heap[g]? = some o) : w.drew.heap[g]? = some o := h

set_option maxHeartbeats 12800000 in
theorem walk (s : ByteArray) (A1 : Option Addr) (n1 c1 : Nat) (l1 : List Int) (w : World) (hrd : Rd w A1 n1 c1 (vals .u8 l1)) (hb1 : ∀ x ∈ l1, 0 ≤ x ∧ x ≤ 255) (hv : Vars w) :
    Calls Tryd.prog 8 #[.string s, .slice A1 n1 c1] w fun e w' => e = .returned (.bool true) ∧ Below w.heap.size w w' := by
  have AW : Hid (∀ W, Vars W → Calls Tryd.prog 9 #[] W fun e w' => e = .returned (.bool true) ∧ Below W.heap.size W w') := Lib.hid awake_any
  have H1 : Held w w := ⟨hv, Below.refl _ _⟩
  by_cases ha : s.size ≤ 300
  · have ga : ¬ (300 : Int) < s.size := by omega
    by_cases hb : n1 ≤ 300
    · have gb : ¬ (300 : Int) < n1 := by omega
      have hll : l1.length = n1 := by simpa using hrd.len
      have hcap := hrd.cap
      cases hR : readOk s.data.toList with
      | true =>
        obtain ⟨K, N, S, CR, SR, RR⟩ : ∃ (K N : Int) (S : ByteArray), Hid (∀ W, Vars W → Calls Tryd.prog 18 #[.string s] W fun e w' => e = .returned (.tuple #[.agg #[.int .i64 K, .int .i64 N, .string S], .int .i64 0]) ∧ Below W.heap.size W w') ∧
            Hid (∀ W, Vars W → Calls Tryd.prog 16 #[.agg #[.int .i64 K, .int .i64 N, .string S]] W fun e w' => e = .returned (.string s) ∧ Below W.heap.size W w') ∧
            Hid (∀ W, Calls Tryd.prog 10 #[.agg #[.int .i64 K, .int .i64 N, .string S]] W fun e w' => e = .returned (.bool true) ∧ Below W.heap.size W w') := by
          obtain ⟨e1, e2, e3, e4⟩ := read_true hR
          have hR2 := hR
          simp only [readOk, Bool.and_eq_true, decide_eq_true_eq] at hR2
          obtain ⟨hr, hs⟩ := hR2
          have hl : (guessB s).size ≤ s.size := guessS_len s.data.toList
          have hg := guessN_rng s.data.toList
          refine ⟨guessK s.data.toList, guessN s.data.toList, guessB s, Lib.hid fun W v => ?_, Lib.hid fun W v => ?_, Lib.hid fun W => ?_⟩
          · have := read_any s W (by omega) v
            rwa [e1, e2, e3, e4] at this
          · have := show_any (guessK s.data.toList) (guessN s.data.toList) (guessB s) W hg.1 hg.2 (by omega) v
            rwa [show showB (guessK s.data.toList) (guessN s.data.toList) (guessB s) = s from ba_ext hs] at this
          · have := right_any (guessK s.data.toList) (guessN s.data.toList) (guessB s) W (by omega)
            rwa [show rightZ (guessK s.data.toList) (guessN s.data.toList) (guessB s).size = true from hr] at this
        cases hG : getOk l1 with
        | true =>
          obtain ⟨KG, NG, SG, m, lt, hm1, hm2, CG, RG, BG, HU⟩ : ∃ (KG NG : Int) (SG : ByteArray) (m : Nat) (lt : List Int), 1 ≤ m ∧ m ≤ n1 ∧ Hid (∀ W, Below w.heap.size w W → Calls Tryd.prog 20 #[.slice A1 n1 c1] W fun e w' => e = .returned (.tuple #[.agg #[.int .i64 KG, .int .i64 NG, .string SG], .int .i64 m, .int .i64 0]) ∧ Below W.heap.size W w') ∧
              Hid (∀ W, Calls Tryd.prog 10 #[.agg #[.int .i64 KG, .int .i64 NG, .string SG]] W fun e w' => e = .returned (.bool true) ∧ Below W.heap.size W w') ∧
              Hid (∀ W, Calls Tryd.prog 22 #[.agg #[.int .i64 KG, .int .i64 NG, .string SG]] W fun e W' => ∃ A c, e = .returned (.slice A m c) ∧ Rd W' A m c (vals .u8 lt) ∧ Below W.heap.size W W') ∧
              Hid (∀ W, Below w.heap.size w W → Rd W A1 m c1 (vals .u8 lt)) := by
            obtain ⟨m, em, hm1, hm2, hby, hri, hn1', hn2', hsz⟩ := got_bytes hb1 hG
            obtain ⟨e1, e2, e3, e4, e5⟩ := gv_some hG
            have hlen : (l1.take m).length = m := by rw [List.length_take]; omega
            refine ⟨hK l1, hN l1, hS l1, m, l1.take m, hm1, by omega, Lib.hid fun W hw => ?_, Lib.hid fun W => ?_, Lib.hid fun W => ?_, Lib.hid fun W hw => ?_⟩
            · have := valGet_any A1 n1 c1 l1 W (hrd.below hw) hb1 (by omega)
              rwa [e1, e2, e3, e4, e5, em] at this
            · have := right_any (hK l1) (hN l1) (hS l1) W (by omega)
              rwa [hri] at this
            · refine (bytes_any (hK l1) (hN l1) (hS l1) W hn1' hn2' (by omega)).mono ?_
              rintro e W' ⟨A, c, h1, _, h3, h4⟩
              rw [hby, hlen] at h1 h3
              exact ⟨A, c, h1, h3, h4⟩
            · have := (hrd.below hw).upto (k := m) (m := c1) (by omega) (by omega) (Nat.le_refl _)
              rw [vals, List.map_take]
              exact this
          have hup := fun W => run_upto (A := A1) (n := n1) (c := c1) (m := m) (by omega) W
          have g1 : ¬ (m : Int) < 1 := by omega
          have g2 : ¬ (n1 : Int) < (m : Int) := by omega
          clear hG hrd hb1 hll
          clear hR
          go_enter Tryd.func8, Tryd.ntmps8
          go_wp2_with fail
          refine (AW.out _ H1.vars).mono ?_
          rintro e w1 ⟨rfl, b1⟩
          have H2 := H1.next b1
          go_wp2_with fail
          refine (CR.out _ H2.vars).mono ?_
          rintro e w2 ⟨rfl, b2⟩
          have H3 := (H2.next b2).alloc (.cells #[.int .i64 K, .int .i64 N, .string S] 23)
          have rx := heap_alloc_new w2 (.cells #[.int .i64 K, .int .i64 N, .string S] 23)
          go_wp2_with fail
          refine (CG.out _ H3.bel).mono ?_
          rintro e w3 ⟨rfl, b3⟩
          have H4 := (H3.next b3).alloc (.cells #[.int .i64 KG, .int .i64 NG, .string SG] 23)
          have ry := heap_alloc_new w3 (.cells #[.int .i64 KG, .int .i64 NG, .string SG] 23)
          have rx := row_below (row_below rx b3) (below_new (Below.refl _ _) (.cells #[.int .i64 KG, .int .i64 NG, .string SG] 23))
          have x0 := cell_row rx 0; have x1 := cell_row rx 1; have x2 := cell_row rx 2
          simp only [List.getElem?_toArray, List.getElem?_cons_zero, List.getElem?_cons_succ] at x0 x1 x2
          have y0 := cell_row ry 0; have y1 := cell_row ry 1; have y2 := cell_row ry 2
          simp only [List.getElem?_toArray, List.getElem?_cons_zero, List.getElem?_cons_succ] at y0 y1 y2
          go_wp2_with fail
          refine (SR.out _ H4.vars).mono ?_
          rintro e w4 ⟨rfl, bb⟩
          have H4 := H4.next bb
          have rx := row_below rx bb; have ry := row_below ry bb
          clear x0 x1 x2 y0 y1 y2
          have x0 := cell_row rx 0; have x1 := cell_row rx 1; have x2 := cell_row rx 2
          simp only [List.getElem?_toArray, List.getElem?_cons_zero, List.getElem?_cons_succ] at x0 x1 x2
          have y0 := cell_row ry 0; have y1 := cell_row ry 1; have y2 := cell_row ry 2
          simp only [List.getElem?_toArray, List.getElem?_cons_zero, List.getElem?_cons_succ] at y0 y1 y2
          go_wp2_with fail
          refine (RR.out _).mono ?_
          rintro e w5 ⟨rfl, bb⟩
          have H4 := H4.next bb
          have rx := row_below rx bb; have ry := row_below ry bb
          clear x0 x1 x2 y0 y1 y2
          have x0 := cell_row rx 0; have x1 := cell_row rx 1; have x2 := cell_row rx 2
          simp only [List.getElem?_toArray, List.getElem?_cons_zero, List.getElem?_cons_succ] at x0 x1 x2
          have y0 := cell_row ry 0; have y1 := cell_row ry 1; have y2 := cell_row ry 2
          simp only [List.getElem?_toArray, List.getElem?_cons_zero, List.getElem?_cons_succ] at y0 y1 y2
          have rdU := HU.out _ H4.bel
          have HX := Lib.hid (row_drew rx); have HY := Lib.hid (row_drew ry)
          clear rx ry
          go_wp2_with fail
          have hcU := run_toText (P := Tryd.prog) 32 9 5 Tryd.underlying32 Tryd.underlying5 Tryd.underlying9 rdU.drew
          go_region_with (first
            | (go_at_call 10; refine (RG.out _).mono ?_; rintro e wx ⟨rfl, bb⟩; have rdU := HU.out _ (H4.drew.next bb).bel; have hcU := run_toText (P := Tryd.prog) 32 9 5 Tryd.underlying32 Tryd.underlying5 Tryd.underlying9 rdU; have H5 := H4.drew.next bb; have HY := Lib.hid (row_below HY.out bb); have y0 := cell_row HY.out 0; have y1 := cell_row HY.out 1; have y2 := cell_row HY.out 2; simp only [List.getElem?_toArray, List.getElem?_cons_zero, List.getElem?_cons_succ] at y0 y1 y2)
            | (go_at_call 22; refine (BG.out _).mono ?_; rintro e wy ⟨AA, cA, rfl, rdA, bb⟩; have hcA := run_toText (P := Tryd.prog) 32 9 5 Tryd.underlying32 Tryd.underlying5 Tryd.underlying9 rdA; have H6 := H5.next bb; have rdU := HU.out _ H6.bel; have hcU := run_toText (P := Tryd.prog) 32 9 5 Tryd.underlying32 Tryd.underlying5 Tryd.underlying9 rdU))
          all_goals go_wp2
          all_goals go_ret
          all_goals exact ⟨rfl, H6.bel⟩
        | false =>
          have CG : Hid (∀ W, Below w.heap.size w W → Calls Tryd.prog 20 #[.slice A1 n1 c1] W fun e w' => e = .returned (.tuple #[.agg #[.int .i64 0, .int .i64 0, .string ⟨#[]⟩], .int .i64 0, .int .i64 3]) ∧ Below W.heap.size W w') := Lib.hid fun W hw => by
            obtain ⟨e1, e2, e3, e4, e5⟩ := gv_none hG
            have := valGet_any A1 n1 c1 l1 W (hrd.below hw) hb1 (by omega)
            rwa [e1, e2, e3, e4, e5] at this
          clear hG hrd hb1 hll
          clear hR
          go_enter Tryd.func8, Tryd.ntmps8
          go_wp2_with fail
          refine (AW.out _ H1.vars).mono ?_
          rintro e w1 ⟨rfl, b1⟩
          have H2 := H1.next b1
          go_wp2_with fail
          refine (CR.out _ H2.vars).mono ?_
          rintro e w2 ⟨rfl, b2⟩
          have H3 := (H2.next b2).alloc (.cells #[.int .i64 K, .int .i64 N, .string S] 23)
          have rx := heap_alloc_new w2 (.cells #[.int .i64 K, .int .i64 N, .string S] 23)
          go_wp2_with fail
          refine (CG.out _ H3.bel).mono ?_
          rintro e w3 ⟨rfl, b3⟩
          have H4 := (H3.next b3).alloc (.cells #[.int .i64 0, .int .i64 0, .string ⟨#[]⟩] 23)
          have ry := heap_alloc_new w3 (.cells #[.int .i64 0, .int .i64 0, .string ⟨#[]⟩] 23)
          have rx := row_below (row_below rx b3) (below_new (Below.refl _ _) (.cells #[.int .i64 0, .int .i64 0, .string ⟨#[]⟩] 23))
          have x0 := cell_row rx 0; have x1 := cell_row rx 1; have x2 := cell_row rx 2
          simp only [List.getElem?_toArray, List.getElem?_cons_zero, List.getElem?_cons_succ] at x0 x1 x2
          have y0 := cell_row ry 0; have y1 := cell_row ry 1; have y2 := cell_row ry 2
          simp only [List.getElem?_toArray, List.getElem?_cons_zero, List.getElem?_cons_succ] at y0 y1 y2
          go_wp2_with fail
          refine (SR.out _ H4.vars).mono ?_
          rintro e w4 ⟨rfl, bb⟩
          have H4 := H4.next bb
          have rx := row_below rx bb; have ry := row_below ry bb
          clear x0 x1 x2 y0 y1 y2
          have x0 := cell_row rx 0; have x1 := cell_row rx 1; have x2 := cell_row rx 2
          simp only [List.getElem?_toArray, List.getElem?_cons_zero, List.getElem?_cons_succ] at x0 x1 x2
          have y0 := cell_row ry 0; have y1 := cell_row ry 1; have y2 := cell_row ry 2
          simp only [List.getElem?_toArray, List.getElem?_cons_zero, List.getElem?_cons_succ] at y0 y1 y2
          go_wp2_with fail
          refine (RR.out _).mono ?_
          rintro e w5 ⟨rfl, bb⟩
          have H4 := H4.next bb
          have rx := row_below rx bb; have ry := row_below ry bb
          clear x0 x1 x2 y0 y1 y2
          have x0 := cell_row rx 0; have x1 := cell_row rx 1; have x2 := cell_row rx 2
          simp only [List.getElem?_toArray, List.getElem?_cons_zero, List.getElem?_cons_succ] at x0 x1 x2
          have y0 := cell_row ry 0; have y1 := cell_row ry 1; have y2 := cell_row ry 2
          simp only [List.getElem?_toArray, List.getElem?_cons_zero, List.getElem?_cons_succ] at y0 y1 y2
          go_wp2
          all_goals go_ret
          all_goals exact ⟨rfl, H4.bel⟩
      | false =>
        have CR : Hid (∀ W, Vars W → Calls Tryd.prog 18 #[.string s] W fun e w' => e = .returned (.tuple #[.agg #[.int .i64 0, .int .i64 0, .string ⟨#[]⟩], .int .i64 3]) ∧ Below W.heap.size W w') := Lib.hid fun W v => by
          obtain ⟨e1, e2, e3, e4⟩ := read_false hR
          have := read_any s W (by omega) v
          rwa [e1, e2, e3, e4] at this
        cases hG : getOk l1 with
        | true =>
          obtain ⟨KG, NG, SG, m, lt, hm1, hm2, CG, RG, BG, HU⟩ : ∃ (KG NG : Int) (SG : ByteArray) (m : Nat) (lt : List Int), 1 ≤ m ∧ m ≤ n1 ∧ Hid (∀ W, Below w.heap.size w W → Calls Tryd.prog 20 #[.slice A1 n1 c1] W fun e w' => e = .returned (.tuple #[.agg #[.int .i64 KG, .int .i64 NG, .string SG], .int .i64 m, .int .i64 0]) ∧ Below W.heap.size W w') ∧
              Hid (∀ W, Calls Tryd.prog 10 #[.agg #[.int .i64 KG, .int .i64 NG, .string SG]] W fun e w' => e = .returned (.bool true) ∧ Below W.heap.size W w') ∧
              Hid (∀ W, Calls Tryd.prog 22 #[.agg #[.int .i64 KG, .int .i64 NG, .string SG]] W fun e W' => ∃ A c, e = .returned (.slice A m c) ∧ Rd W' A m c (vals .u8 lt) ∧ Below W.heap.size W W') ∧
              Hid (∀ W, Below w.heap.size w W → Rd W A1 m c1 (vals .u8 lt)) := by
            obtain ⟨m, em, hm1, hm2, hby, hri, hn1', hn2', hsz⟩ := got_bytes hb1 hG
            obtain ⟨e1, e2, e3, e4, e5⟩ := gv_some hG
            have hlen : (l1.take m).length = m := by rw [List.length_take]; omega
            refine ⟨hK l1, hN l1, hS l1, m, l1.take m, hm1, by omega, Lib.hid fun W hw => ?_, Lib.hid fun W => ?_, Lib.hid fun W => ?_, Lib.hid fun W hw => ?_⟩
            · have := valGet_any A1 n1 c1 l1 W (hrd.below hw) hb1 (by omega)
              rwa [e1, e2, e3, e4, e5, em] at this
            · have := right_any (hK l1) (hN l1) (hS l1) W (by omega)
              rwa [hri] at this
            · refine (bytes_any (hK l1) (hN l1) (hS l1) W hn1' hn2' (by omega)).mono ?_
              rintro e W' ⟨A, c, h1, _, h3, h4⟩
              rw [hby, hlen] at h1 h3
              exact ⟨A, c, h1, h3, h4⟩
            · have := (hrd.below hw).upto (k := m) (m := c1) (by omega) (by omega) (Nat.le_refl _)
              rw [vals, List.map_take]
              exact this
          have hup := fun W => run_upto (A := A1) (n := n1) (c := c1) (m := m) (by omega) W
          have g1 : ¬ (m : Int) < 1 := by omega
          have g2 : ¬ (n1 : Int) < (m : Int) := by omega
          clear hG hrd hb1 hll
          clear hR
          go_enter Tryd.func8, Tryd.ntmps8
          go_wp2_with fail
          refine (AW.out _ H1.vars).mono ?_
          rintro e w1 ⟨rfl, b1⟩
          have H2 := H1.next b1
          go_wp2_with fail
          refine (CR.out _ H2.vars).mono ?_
          rintro e w2 ⟨rfl, b2⟩
          have H3 := (H2.next b2).alloc (.cells #[.int .i64 0, .int .i64 0, .string ⟨#[]⟩] 23)
          have rx := heap_alloc_new w2 (.cells #[.int .i64 0, .int .i64 0, .string ⟨#[]⟩] 23)
          go_wp2_with fail
          refine (CG.out _ H3.bel).mono ?_
          rintro e w3 ⟨rfl, b3⟩
          have H4 := (H3.next b3).alloc (.cells #[.int .i64 KG, .int .i64 NG, .string SG] 23)
          have ry := heap_alloc_new w3 (.cells #[.int .i64 KG, .int .i64 NG, .string SG] 23)
          have rx := row_below (row_below rx b3) (below_new (Below.refl _ _) (.cells #[.int .i64 KG, .int .i64 NG, .string SG] 23))
          have x0 := cell_row rx 0; have x1 := cell_row rx 1; have x2 := cell_row rx 2
          simp only [List.getElem?_toArray, List.getElem?_cons_zero, List.getElem?_cons_succ] at x0 x1 x2
          have y0 := cell_row ry 0; have y1 := cell_row ry 1; have y2 := cell_row ry 2
          simp only [List.getElem?_toArray, List.getElem?_cons_zero, List.getElem?_cons_succ] at y0 y1 y2
          have rdU := HU.out _ H4.bel
          have HX := Lib.hid (row_drew rx); have HY := Lib.hid (row_drew ry)
          clear rx ry
          go_wp2_with fail
          have hcU := run_toText (P := Tryd.prog) 32 9 5 Tryd.underlying32 Tryd.underlying5 Tryd.underlying9 rdU.drew
          go_region_with (first
            | (go_at_call 10; refine (RG.out _).mono ?_; rintro e wx ⟨rfl, bb⟩; have rdU := HU.out _ (H4.drew.next bb).bel; have hcU := run_toText (P := Tryd.prog) 32 9 5 Tryd.underlying32 Tryd.underlying5 Tryd.underlying9 rdU; have H5 := H4.drew.next bb; have HY := Lib.hid (row_below HY.out bb); have y0 := cell_row HY.out 0; have y1 := cell_row HY.out 1; have y2 := cell_row HY.out 2; simp only [List.getElem?_toArray, List.getElem?_cons_zero, List.getElem?_cons_succ] at y0 y1 y2)
            | (go_at_call 22; refine (BG.out _).mono ?_; rintro e wy ⟨AA, cA, rfl, rdA, bb⟩; have hcA := run_toText (P := Tryd.prog) 32 9 5 Tryd.underlying32 Tryd.underlying5 Tryd.underlying9 rdA; have H6 := H5.next bb; have rdU := HU.out _ H6.bel; have hcU := run_toText (P := Tryd.prog) 32 9 5 Tryd.underlying32 Tryd.underlying5 Tryd.underlying9 rdU))
          all_goals go_wp2
          all_goals go_ret
          all_goals exact ⟨rfl, H6.bel⟩
        | false =>
          have CG : Hid (∀ W, Below w.heap.size w W → Calls Tryd.prog 20 #[.slice A1 n1 c1] W fun e w' => e = .returned (.tuple #[.agg #[.int .i64 0, .int .i64 0, .string ⟨#[]⟩], .int .i64 0, .int .i64 3]) ∧ Below W.heap.size W w') := Lib.hid fun W hw => by
            obtain ⟨e1, e2, e3, e4, e5⟩ := gv_none hG
            have := valGet_any A1 n1 c1 l1 W (hrd.below hw) hb1 (by omega)
            rwa [e1, e2, e3, e4, e5] at this
          clear hG hrd hb1 hll
          clear hR
          go_enter Tryd.func8, Tryd.ntmps8
          go_wp2_with fail
          refine (AW.out _ H1.vars).mono ?_
          rintro e w1 ⟨rfl, b1⟩
          have H2 := H1.next b1
          go_wp2_with fail
          refine (CR.out _ H2.vars).mono ?_
          rintro e w2 ⟨rfl, b2⟩
          have H3 := (H2.next b2).alloc (.cells #[.int .i64 0, .int .i64 0, .string ⟨#[]⟩] 23)
          have rx := heap_alloc_new w2 (.cells #[.int .i64 0, .int .i64 0, .string ⟨#[]⟩] 23)
          go_wp2_with fail
          refine (CG.out _ H3.bel).mono ?_
          rintro e w3 ⟨rfl, b3⟩
          have H4 := (H3.next b3).alloc (.cells #[.int .i64 0, .int .i64 0, .string ⟨#[]⟩] 23)
          have ry := heap_alloc_new w3 (.cells #[.int .i64 0, .int .i64 0, .string ⟨#[]⟩] 23)
          have rx := row_below (row_below rx b3) (below_new (Below.refl _ _) (.cells #[.int .i64 0, .int .i64 0, .string ⟨#[]⟩] 23))
          have x0 := cell_row rx 0; have x1 := cell_row rx 1; have x2 := cell_row rx 2
          simp only [List.getElem?_toArray, List.getElem?_cons_zero, List.getElem?_cons_succ] at x0 x1 x2
          have y0 := cell_row ry 0; have y1 := cell_row ry 1; have y2 := cell_row ry 2
          simp only [List.getElem?_toArray, List.getElem?_cons_zero, List.getElem?_cons_succ] at y0 y1 y2
          go_wp2
          all_goals go_ret
          all_goals exact ⟨rfl, H4.bel⟩
    · have gb : (300 : Int) < n1 := by omega
      go_enter Tryd.func8, Tryd.ntmps8
      go_wp2_with fail
      refine (AW.out _ H1.vars).mono ?_
      rintro e w1 ⟨rfl, b1⟩
      have H2 := H1.next b1
      go_wp2
      all_goals go_ret
      all_goals exact ⟨rfl, H2.bel⟩
  · have ga : (300 : Int) < s.size := by omega
    go_enter Tryd.func8, Tryd.ntmps8
    go_wp2_with fail
    refine (AW.out _ H1.vars).mono ?_
    rintro e w1 ⟨rfl, b1⟩
    have H2 := H1.next b1
    go_wp2
    all_goals go_ret
    all_goals exact ⟨rfl, H2.bel⟩

theorem contract (H : Type) (enc : TypeId × Value → H) (W : World) (base : Nat) (args : Array Value) (ds gs : List (DataW H)) (before : List MemPlace)
    (hval : ∀ (j : Nat) t v, Tryd.f8.params[j]? = some t → args[j]? = some v → Value.okWide Tryd.prog W .any base t v)
    (hW : DataW.Whole enc Tryd.prog Tryd.f8.params.toList Rows.valueWholeSpec.vars false W args.toList ds gs before) (hL : laidMetH Tryd.prog Rows.valueWholeRow.laid W) (hS : W.ShapedOpen Tryd.prog) :
    Calls Tryd.prog 8 args W fun e W' => ∃ v, e = .returned v ∧ Rows.valueWholeSpec.post enc Tryd.prog Tryd.f8 false true false false W args v W' := by
  have hlt : ∀ x ∈ before, x.block < W.heap.size := fun x hx => by simpa using hW.lt x hx
  have hvars : Vars W := vars_of hL hS
  refine law_step 4 Tryd.laid_ (by kernel_rfl) rfl Tryd.underlying4 rfl hW (fun xs hx => ?_) ?_
  · match xs, hx with
    | [d0, d1], _ => rfl
  · obtain ⟨p, q, hA0, hV, rfl, _, _⟩ := hW
    have hA : DataW.TrodAll enc Tryd.prog W 0 (fun _ => true) true Tryd.f8.params.toList args.toList ds p := hA0
    rw [Tryd.params8] at hA hval
    obtain ⟨v0, vs0, d0, ds0, p0, q0, e0, rfl, rfl, h0, r0⟩ := trodAll_cons hA
    obtain ⟨v1, vs1, d1, ds1, p1, q1, e1, rfl, rfl, h1, r1⟩ := trodAll_cons r0
    obtain ⟨rfl, rfl, rfl⟩ := trodAll_nil r1
    subst e1
    obtain rfl : args = #[v0, v1] := by cases args; simp_all
    clear e0 hA0
    obtain ⟨s, rfl, rfl, rfl, ws0⟩ := open_string Tryd.underlying9 (hval 0 9 v0 rfl rfl) h0
    obtain ⟨A1, n1, c1, l1, rfl, rd1, wf1⟩ := open_sl (k := .u8) Tryd.underlying32 Tryd.underlying5 (by kernel_rfl) (hval 1 32 v1 rfl rfl) h1 (fun x hx => hlt x (by simp [hx]))
    exact walk s A1 n1 c1 l1 W rd1 (fun x hx => wf_u8 (wf1 x hx)) hvars

theorem reads (os : Os) {H : Type} (enc : TypeId × Value → H) : ∃ places, DataW.whole enc Tryd.prog ((laidWorld os).forCall (fun _ _ => 0) ⟨#[], #[.string ⟨#[]⟩, .slice none 0 0], []⟩).memory Tryd.f8.params.toList Rows.valueWholeSpec.vars false #[.string ⟨#[]⟩, .slice none 0 0].toList 8 = some ([.lit (.string []), .nil], [], places) :=
  ⟨[], by kernel_rfl⟩

theorem lifted (os : Os) (started : os.Started) (H : Type) (enc : TypeId × Value → H) (F : Stop.Interp) :
    ReturnsInHanded {} Tryd.checked os 8 .any ((OpenSpec.ofChange Rows.valueWholeSpec).preRow enc Tryd.prog Tryd.f8 Rows.valueWholeRow.domain false Rows.valueWholeRow.laid) (((OpenSpec.ofChange Rows.valueWholeSpec).at F).post enc Tryd.prog Tryd.f8 false true false false) := by
  obtain ⟨places, hx⟩ := reads os enc
  refine returnsInHanded_of_row (C := Tryd.checked) (s := OpenSpec.ofChange Rows.valueWholeSpec) Tryd.own_ started (by kernel_rfl) Tryd.func8
    (witness_row_atRef (enc := enc) (C := Tryd.checked) false (laidWorld os) #[.string ⟨#[]⟩, .slice none 0 0] rfl (laid_vars os _) (laid_begin os _) (by kernel_rfl)
      (OpenSpec.preRow_of_cond 8 hx (by kernel_rfl) (fun k hk => by cases hk) (by kernel_rfl) (laid_met os _))) ?_
  intro W base args ds gs before hval hW _ _ _ hL hS _
  exact contract H enc W base args ds gs before hval hW hL hS

theorem said : Rows.ValueWholeSaid :=
  OpenClaim.holds_of_cond 8 Tryd.f8 rfl rfl rfl rfl rfl rfl rfl ⟨rfl, rfl, rfl, rfl, rfl⟩ rfl rfl rfl rfl rfl (by kernel_rfl) Tryd.func8 (by kernel_rfl)
    (of_decide_eq_true (by kernel_rfl)) (by unfold Func.isWrapper; first | (rw [if_pos (by decide +kernel)]; kernel_rfl) | (rw [if_neg (by decide +kernel)]; exact ⟨rfl, rfl⟩))
    (fun os started H enc _ F => by rw [OpenClaim.pre_eq_preRow]; exact lifted os started H enc F)

theorem plain (f : FuncId) (fn : Func) (hf : Tryd.pinned.checked.prog.funcNamed "homestead/homesteadlaw02.ValueWhole" = some f) (hfn : Tryd.pinned.checked.prog.funcs[f]? = some fn) :
    true = Tryd.pinned.checked.prog.looks [] ∧ ∀ (j : Nat) t, fn.params[j]? = some t → Tryd.pinned.checked.prog.wantsStandIn t = false := by
  obtain rfl : f = 8 := Option.some.inj ((show Tryd.prog.funcNamed "homestead/homesteadlaw02.ValueWhole" = some 8 by kernel_rfl).symm.trans hf) |>.symm
  obtain rfl : fn = Tryd.f8 := (Option.some.inj (Tryd.func8.symm.trans hfn)).symm
  refine ⟨by kernel_rfl, fun j t ht => ?_⟩
  rw [Tryd.params8] at ht
  have hm : t ∈ [9, 32] := by simpa using Array.mem_of_getElem? ht
  have hall : [9, 32].all (fun t => !Tryd.prog.wantsStandIn t) = true := by kernel_rfl
  exact (show Tryd.prog.wantsStandIn t = false from by simpa using List.all_eq_true.1 hall t hm)

theorem card : Rows.ValueWholeCardSaid :=
  Claim7.holds_tied_plain_at .later [] _ _ _ _ said (fun _ h => by cases h) (by kernel_rfl) (fun _ h => by cases h) valueWhole_row_tie rfl ⟨rfl, rfl⟩ (by kernel_rfl) rfl plain (by kernel_rfl)
end Go.Proofs.YtkicjhphiibifaaDoor.valueWhole
