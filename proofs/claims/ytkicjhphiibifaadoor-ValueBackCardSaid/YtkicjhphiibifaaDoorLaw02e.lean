/- What is shown is read back, and so are bytes, whatever stands behind them; unlike values show unlike, and have unlike bytes, none of which is the beginning of the other one's: ValueBack answers true. No condition. -/
import Derived.Test.YtkicjhphiibifaaDoorCards
import Derived.Test.YtkicjhphiibifaaDoorLaid
import Derived.Lib.SmallJoins
import Derived.Test.YtkicjhphiibifaaDoorValBackMath
import Derived.Test.YtkicjhphiibifaaDoorValEq
import Derived.Test.YtkicjhphiibifaaDoorValAwake
namespace Go.Proofs.YtkicjhphiibifaaDoor.valueBack
open Go.ChangeShapes Go.WideShapes Go.ChangeAt Go.RowKit Go.ChangeMaps
set_option maxRecDepth 100000

theorem row_drew {w : World} {g : Nat} {o : Obj} (h : w.heap[g]? = some o) : w.drew.heap[g]? = some o := h

/-- what a value's text and number must be for it to be shown here -/
def Fit (n : Int) (s : ByteArray) : Prop := -9223372036854775808 ≤ n ∧ n ≤ 9223372036854775807 ∧ s.size ≤ 300

set_option maxHeartbeats 25600000 in
theorem walk (ka na kb nb : Int) (sa sb : ByteArray) (A1 : Option Addr) (n1 c1 : Nat) (l1 : List Int) (w : World) (hrd : Rd w A1 n1 c1 (vals .u8 l1)) (hb1 : ∀ x ∈ l1, 0 ≤ x ∧ x ≤ 255) (hv : Vars w) :
    Calls Tryd.prog 7 #[.agg #[.int .i64 ka, .int .i64 na, .string sa], .agg #[.int .i64 kb, .int .i64 nb, .string sb], .slice A1 n1 c1] w fun e w' => e = .returned (.bool true) ∧ Below w.heap.size w w' := by
  have AW : Hid (∀ W, Vars W → Calls Tryd.prog 9 #[] W fun e w' => e = .returned (.bool true) ∧ Below W.heap.size W w') := Lib.hid awake_any
  have H1 := (Held.alloc (Held.alloc (⟨hv, Below.refl _ _⟩ : Held w w) (.cells #[.int .i64 ka, .int .i64 na, .string sa] 23)) (.cells #[.int .i64 kb, .int .i64 nb, .string sb] 23))
  have ra := row_below (heap_alloc_new w (.cells #[.int .i64 ka, .int .i64 na, .string sa] 23)) (below_new (Below.refl _ _) (.cells #[.int .i64 kb, .int .i64 nb, .string sb] 23))
  have rb := heap_alloc_new (w.alloc (.cells #[.int .i64 ka, .int .i64 na, .string sa] 23)) (.cells #[.int .i64 kb, .int .i64 nb, .string sb] 23)
  rw [World.size_alloc] at rb
  have RA := Lib.hid ra; have RB := Lib.hid rb; clear ra rb
  rcases Decidable.em (sa.size ≤ 300) with la0 | la0
  · have ga : ¬ (300 : Int) < sa.size := by omega
    rcases Decidable.em (sb.size ≤ 300) with lb0 | lb0
    · have gb : ¬ (300 : Int) < sb.size := by omega
      rcases Decidable.em (n1 ≤ 300) with ln0 | ln0
      · have gn : ¬ (300 : Int) < n1 := by omega
        cases hra : rightZ ka na sa.size with
        | true =>
          have CRa : Hid (∀ W, Calls Tryd.prog 10 #[.agg #[.int .i64 ka, .int .i64 na, .string sa]] W fun e w' => e = .returned (.bool true) ∧ Below W.heap.size W w') := Lib.hid fun W => by
            have := right_any ka na sa W (by omega); rwa [hra] at this
          cases hrb : rightZ kb nb sb.size with
          | true =>
            have CRb : Hid (∀ W, Calls Tryd.prog 10 #[.agg #[.int .i64 kb, .int .i64 nb, .string sb]] W fun e w' => e = .returned (.bool true) ∧ Below W.heap.size W w') := Lib.hid fun W => by
              have := right_any kb nb sb W (by omega); rwa [hrb] at this
            have SH : Hid (∀ k n s, Fit n s → ∀ W, Vars W → Calls Tryd.prog 16 #[.agg #[.int .i64 k, .int .i64 n, .string s]] W fun e w' => e = .returned (.string (showB k n s)) ∧ Below W.heap.size W w') :=
              Lib.hid fun k n s hf W v => show_any k n s W hf.1 hf.2.1 (by have := hf.2.2; omega) v
            have PA : Hid (Fit na sa) := Lib.hid ⟨(rightZ_n hra).1, (rightZ_n hra).2, la0⟩
            have PB : Hid (Fit nb sb) := Lib.hid ⟨(rightZ_n hrb).1, (rightZ_n hrb).2, lb0⟩
            have hqa := quo_len sa.data.toList
            have CRd : Hid (∀ W, Vars W → Calls Tryd.prog 18 #[.string (showB ka na sa)] W fun e w' => e = .returned (.tuple #[.agg #[.int .i64 ka, .int .i64 na, .string sa], .int .i64 0]) ∧ Below W.heap.size W w') := Lib.hid fun W v => by
              have hr := readOk_of (k := ka) (n := na) (s := sa.data.toList) (l := (showB ka na sa).data.toList) hra rfl
              have hsz : (showB ka na sa).size ≤ 1000000000 := show_size hra
              have := read_any (showB ka na sa) W hsz v
              rw [hr.2.1, hr.2.2.1, hr.2.2.2.2, show readB (showB ka na sa) = sa from ba_ext (by rw [readB]; exact hr.2.2.2.1)] at this
              exact this
            have SHa : Hid (∀ W, Vars W → Calls Tryd.prog 16 #[.agg #[.int .i64 ka, .int .i64 na, .string sa]] W fun e w' => e = .returned (.string (showB ka na sa)) ∧ Below W.heap.size W w') := Lib.hid fun W v => SH.out ka na sa PA.out W v
            have HMO : Hid (∀ W, Below w.heap.size w W → Rd W A1 n1 c1 (vals .u8 l1)) := Lib.hid fun W h => hrd.below h
            obtain ⟨ll, la, hla, CBa, hll⟩ : ∃ (ll : List Int) (la : Nat), la ≤ 1000000 ∧ Hid (∀ W, Calls Tryd.prog 22 #[.agg #[.int .i64 ka, .int .i64 na, .string sa]] W fun e W' => ∃ A c, e = .returned (.slice A la c) ∧ Rd W' A la c (vals .u8 ll) ∧ Below W.heap.size W W') ∧ Hid (ll = bytesZ ka na sa ∧ la = (bytesZ ka na sa).length) :=
              ⟨_, _, bytes_len la0, Lib.hid fun W => (bytes_any ka na sa W (rightZ_n hra).1 (rightZ_n hra).2 (by omega)).mono fun e W' ⟨A, c, h1, _, h3, h4⟩ => ⟨A, c, h1, h3, h4⟩, Lib.hid ⟨rfl, rfl⟩⟩
            obtain ⟨lm, lb, hlb, CBb, hlm⟩ : ∃ (lm : List Int) (lb : Nat), lb ≤ 1000000 ∧ Hid (∀ W, Calls Tryd.prog 22 #[.agg #[.int .i64 kb, .int .i64 nb, .string sb]] W fun e W' => ∃ A c, e = .returned (.slice A lb c) ∧ Rd W' A lb c (vals .u8 lm) ∧ Below W.heap.size W W') ∧ Hid (lm = bytesZ kb nb sb ∧ lb = (bytesZ kb nb sb).length) :=
              ⟨_, _, bytes_len lb0, Lib.hid fun W => (bytes_any kb nb sb W (rightZ_n hrb).1 (rightZ_n hrb).2 (by omega)).mono fun e W' ⟨A, c, h1, _, h3, h4⟩ => ⟨A, c, h1, h3, h4⟩, Lib.hid ⟨rfl, rfl⟩⟩
            have CGt : Hid (∀ W A c, Rd W A (la + n1) c (vals .u8 (ll ++ l1)) → Calls Tryd.prog 20 #[.slice A (la + n1) c] W fun e w' => e = .returned (.tuple #[.agg #[.int .i64 ka, .int .i64 na, .string sa], .int .i64 la, .int .i64 0]) ∧ Below W.heap.size W w') := Lib.hid fun W A c h => by
              obtain ⟨g0, g1, g2, g3, g4⟩ := val_put_get hra l1
              obtain ⟨e1, e2, e3, e4, e5⟩ := gv_some g0
              have hbb : ∀ x ∈ ll ++ l1, 0 ≤ x ∧ x ≤ 255 := fun x hx => by
                rw [List.mem_append] at hx
                rcases hx with hx | hx
                · rw [hll.out.1] at hx; exact bytes_rng ka na sa ⟨(rightZ_n hra).1, (rightZ_n hra).2⟩ (by omega) x hx
                · exact hb1 x hx
              have := valGet_any A (la + n1) c (ll ++ l1) W h hbb (by omega)
              rw [hll.out.1] at this
              rwa [e1, e2, e3, e4, e5, g1, g2, g3, g4, ← hll.out.2] at this
            have hme : ∃ kk : Nat, kk = min la lb := ⟨_, rfl⟩
            obtain ⟨kk, hkk⟩ := hme
            have hmin : min (la : Int) (lb : Int) = (kk : Int) := by omega
            have hka : kk ≤ la := by omega
            have hkb : kk ≤ lb := by omega
            have hma : ¬ ((la : Int) < (kk : Int)) := by omega
            have heq := fun W => run_equalIn_val ka na kb nb sa sb W
            cases hd : sameZ ka na sa kb nb sb with
            | true =>
              obtain ⟨rfl, rfl, rfl⟩ : ka = kb ∧ na = nb ∧ sa = sb := by
                simp only [sameZ, Bool.and_eq_true, decide_eq_true_eq] at hd
                exact ⟨hd.1.1, hd.1.2, hd.2⟩
              obtain rfl : ll = lm := hll.out.1.trans hlm.out.1.symm
              obtain rfl : la = lb := hll.out.2.trans hlm.out.2.symm
              clear hkk hrd hb1 hqa hra hrb
              go_enter Tryd.func7, Tryd.ntmps7
              go_wp2_with fail
              refine (AW.out _ H1.vars).mono ?_
              rintro e w1 ⟨rfl, b1⟩
              have H2 := H1.next b1
              have ra := row_below RA.out b1; have rb := row_below RB.out b1
              clear b1
              have a0 := cell_row ra 0; have a1 := cell_row ra 1; have a2 := cell_row ra 2
              have b0 := cell_row rb 0; have b1 := cell_row rb 1; have b2 := cell_row rb 2
              simp only [List.getElem?_toArray, List.getElem?_cons_zero, List.getElem?_cons_succ] at a0 a1 a2 b0 b1 b2
              go_wp2_with fail
              refine (CRa.out _).mono ?_
              rintro e w2 ⟨rfl, bb⟩
              have H3 := H2.next bb
              clear a0 a1 a2 b0 b1 b2
              have ra := row_below ra bb; have rb := row_below rb bb
              have a0 := cell_row ra 0; have a1 := cell_row ra 1; have a2 := cell_row ra 2
              have b0 := cell_row rb 0; have b1 := cell_row rb 1; have b2 := cell_row rb 2
              simp only [List.getElem?_toArray, List.getElem?_cons_zero, List.getElem?_cons_succ] at a0 a1 a2 b0 b1 b2
              go_wp2_with fail
              refine (CRb.out _).mono ?_
              rintro e w3 ⟨rfl, bb⟩
              have H4 := H3.next bb
              clear a0 a1 a2 b0 b1 b2
              have ra := row_below ra bb; have rb := row_below rb bb
              have a0 := cell_row ra 0; have a1 := cell_row ra 1; have a2 := cell_row ra 2
              have b0 := cell_row rb 0; have b1 := cell_row rb 1; have b2 := cell_row rb 2
              simp only [List.getElem?_toArray, List.getElem?_cons_zero, List.getElem?_cons_succ] at a0 a1 a2 b0 b1 b2
              go_wp2_with fail
              refine (SHa.out _ H4.vars).mono ?_
              rintro e w4 ⟨rfl, bb⟩
              have H5 := H4.next bb
              clear a0 a1 a2 b0 b1 b2
              have ra := row_below ra bb; have rb := row_below rb bb
              have a0 := cell_row ra 0; have a1 := cell_row ra 1; have a2 := cell_row ra 2
              have b0 := cell_row rb 0; have b1 := cell_row rb 1; have b2 := cell_row rb 2
              simp only [List.getElem?_toArray, List.getElem?_cons_zero, List.getElem?_cons_succ] at a0 a1 a2 b0 b1 b2
              go_wp2_with fail
              refine (CRd.out _ H5.vars).mono ?_
              rintro e w5 ⟨rfl, bb⟩
              have H6 := (H5.next bb).alloc (.cells #[.int .i64 ka, .int .i64 na, .string sa] 23)
              clear a0 a1 a2 b0 b1 b2
              have ra := row_below (row_below ra bb) (below_new (Below.refl _ _) (.cells #[.int .i64 ka, .int .i64 na, .string sa] 23)); have rb := row_below (row_below rb bb) (below_new (Below.refl _ _) (.cells #[.int .i64 ka, .int .i64 na, .string sa] 23))
              have rx := heap_alloc_new w5 (.cells #[.int .i64 ka, .int .i64 na, .string sa] 23)
              have a0 := cell_row ra 0; have a1 := cell_row ra 1; have a2 := cell_row ra 2
              have b0 := cell_row rb 0; have b1 := cell_row rb 1; have b2 := cell_row rb 2
              simp only [List.getElem?_toArray, List.getElem?_cons_zero, List.getElem?_cons_succ] at a0 a1 a2 b0 b1 b2
              go_wp2_with fail
              refine (CBa.out _).mono ?_
              rintro e w6 ⟨Al, cl, rfl, rdl, bb⟩
              have H7 := H6.next bb
              clear a0 a1 a2 b0 b1 b2
              have ra := row_below ra bb; have rb := row_below rb bb; have rx := row_below rx bb
              have a0 := cell_row ra 0; have a1 := cell_row ra 1; have a2 := cell_row ra 2
              have b0 := cell_row rb 0; have b1 := cell_row rb 1; have b2 := cell_row rb 2
              simp only [List.getElem?_toArray, List.getElem?_cons_zero, List.getElem?_cons_succ] at a0 a1 a2 b0 b1 b2
              go_wp2_with fail
              refine (CBb.out _).mono ?_
              rintro e w7 ⟨Am, cm, rfl, rdm, bb⟩
              have H8 := H7.next bb
              clear a0 a1 a2 b0 b1 b2
              have ra := row_below ra bb; have rb := row_below rb bb; have rx := row_below rx bb; have rdl := rdl.below bb
              clear bb
              have hown0 : (w7.alloc (.cells #[] 5)).ownsRow w7.heap.size 5 1 (.slice (some ⟨w7.heap.size, 0, none⟩) 0 0) 0 [] := own_built w7 w7.heap.size 5 [] (Nat.le_refl _) (by simp)
              have hb0 : Below w7.heap.size w7 (w7.alloc (.cells #[] 5)) := below_new (Below.refl _ _) _
              have hz0 : w7.heap.size ≤ (w7.alloc (.cells #[] 5)).heap.size := by simp
              have HL7 := Lib.hid rdl; have HM7 := Lib.hid rdm
              go_wp2_with (first
                | (at_builtin; refine wpList_appS rfl (.tmp 55) (.tmp 56) _ rfl 5 Tryd.underlying32 _ 1 Tryd.infoByte rfl (by decide) w7.heap.size _ 0 [] _ _ _ (vals .u8 ll) rfl rfl hown0 (HL7.out.below hb0) (vals_one _ _) (by omega) hb0 hz0 ?_; intro A8 c8 w8 hown1 rd1 hbel1 hsz1; simp only [Nat.zero_add, List.nil_append] at hown1 rd1 ⊢)
                | (at_builtin; refine wpList_appS rfl (.tmp 57) (.tmp 58) _ rfl 5 Tryd.underlying32 _ 1 Tryd.infoByte rfl (by decide) w7.heap.size _ la (vals .u8 ll) _ _ _ (vals .u8 l1) rfl rfl hown1 (HMO.out _ (below_then H8.bel hbel1)) (vals_one _ _) (by omega) hbel1 hsz1 ?_; intro A9 c9 w9 hown2 rd2 hbel2 hsz2)
                | fail)
              refine (CGt.out _ _ _ (by rw [vals, List.map_append]; exact rd2)).mono ?_
              rintro e w10 ⟨rfl, bb⟩
              have b10 : Below w7.heap.size w7 w10 := below_then hbel2 bb
              have H9 := (H8.next b10).alloc (.cells #[.int .i64 ka, .int .i64 na, .string sa] 23)
              have ra := row_below (row_below ra b10) (below_new (Below.refl _ _) (.cells #[.int .i64 ka, .int .i64 na, .string sa] 23)); have rb := row_below (row_below rb b10) (below_new (Below.refl _ _) (.cells #[.int .i64 ka, .int .i64 na, .string sa] 23))
              have rx := row_below (row_below rx b10) (below_new (Below.refl _ _) (.cells #[.int .i64 ka, .int .i64 na, .string sa] 23))
              have ry := heap_alloc_new w10 (.cells #[.int .i64 ka, .int .i64 na, .string sa] 23)
              have rdl := (rdl.below b10).alloc (.cells #[.int .i64 ka, .int .i64 na, .string sa] 23)
              have rdm := (rdm.below b10).alloc (.cells #[.int .i64 ka, .int .i64 na, .string sa] 23)
              have a0 := cell_row ra 0; have a1 := cell_row ra 1; have a2 := cell_row ra 2
              have b0 := cell_row rb 0; have b1 := cell_row rb 1; have b2 := cell_row rb 2
              have x0 := cell_row rx 0; have x1 := cell_row rx 1; have x2 := cell_row rx 2
              have y0 := cell_row ry 0; have y1 := cell_row ry 1; have y2 := cell_row ry 2
              simp only [List.getElem?_toArray, List.getElem?_cons_zero, List.getElem?_cons_succ] at a0 a1 a2 b0 b1 b2 x0 x1 x2 y0 y1 y2
              have hupL := fun W => run_upto (A := Al) (n := la) (c := cl) (m := kk) (by have := rdl.cap; omega) W
              have hupM := fun W => run_upto (A := Am) (n := la) (c := cm) (m := kk) (by have := rdm.cap; omega) W
              clear bb hown0 hb0 hz0 hown1 rd1 hbel1 hsz1 hown2 rd2 hbel2 hsz2 b10 H2 H3 H4 H5 H6 H7 H8
              have UL : Hid (∀ W, Rd W Al la cl (vals .u8 ll) → Rd W Al kk cl (vals .u8 (ll.take kk))) := Lib.hid fun W h => by
                have := h.upto (k := kk) (m := cl) (by omega) (by have := h.cap; omega) (Nat.le_refl _)
                rw [vals, List.map_take]; exact this
              have UM : Hid (∀ W, Rd W Am la cm (vals .u8 ll) → Rd W Am kk cm (vals .u8 (ll.take kk))) := Lib.hid fun W h => by
                have := h.upto (k := kk) (m := cm) (by omega) (by have := h.cap; omega) (Nat.le_refl _)
                rw [vals, List.map_take]; exact this
              have eqL := run_toText (P := Tryd.prog) 32 9 5 Tryd.underlying32 Tryd.underlying5 Tryd.underlying9 (UL.out _ rdl)
              have eqM := run_toText (P := Tryd.prog) 32 9 5 Tryd.underlying32 Tryd.underlying5 Tryd.underlying9 (UM.out _ rdm)
              clear ra rb rx ry HL7 HM7
              go_wp2_with fail
              go_region_held3 (fun W => Held w W ∧ W.cell? ⟨w.heap.size, 0, none⟩ = some (.int .i64 ka) ∧ W.cell? ⟨w.heap.size, 1, none⟩ = some (.int .i64 na) ∧ W.cell? ⟨w.heap.size, 2, none⟩ = some (.string sa) ∧ W.cell? ⟨w.heap.size + 1, 0, none⟩ = some (.int .i64 ka) ∧ W.cell? ⟨w.heap.size + 1, 1, none⟩ = some (.int .i64 na) ∧ W.cell? ⟨w.heap.size + 1, 2, none⟩ = some (.string sa) ∧ Rd W Al la cl (vals .u8 ll) ∧ Rd W Am la cm (vals .u8 ll) ∧
                  (convert 32 9 (.slice Al kk cl)).run Tryd.prog W = .ok (.string (textOf (ll.take kk))) W ∧ (convert 32 9 (.slice Am kk cm)).run Tryd.prog W = .ok (.string (textOf (ll.take kk))) W)
                (first
                  | (go_split_ands
                     refine ⟨?_, ?_, ?_, ?_, ?_, ?_, ?_, ?_, ?_, ?_, ?_⟩
                     · exact Held.next (by assumption) bb
                     · exact (bb.cell (World.block_lt_of_cell? _ _ (by assumption))).trans (by assumption)
                     · exact (bb.cell (World.block_lt_of_cell? _ _ (by assumption))).trans (by assumption)
                     · exact (bb.cell (World.block_lt_of_cell? _ _ (by assumption))).trans (by assumption)
                     · exact (bb.cell (World.block_lt_of_cell? _ _ (by assumption))).trans (by assumption)
                     · exact (bb.cell (World.block_lt_of_cell? _ _ (by assumption))).trans (by assumption)
                     · exact (bb.cell (World.block_lt_of_cell? _ _ (by assumption))).trans (by assumption)
                     · exact Rd.below (by assumption) bb
                     · exact Rd.below (by assumption) bb
                     · exact run_toText (P := Tryd.prog) 32 9 5 Tryd.underlying32 Tryd.underlying5 Tryd.underlying9 (UL.out _ (Rd.below (by assumption) bb))
                     · exact run_toText (P := Tryd.prog) 32 9 5 Tryd.underlying32 Tryd.underlying5 Tryd.underlying9 (UM.out _ (Rd.below (by assumption) bb)))
                  | (go_split_ands
                     refine ⟨?_, ?_, ?_, ?_, ?_, ?_, ?_, ?_, ?_, ?_, ?_⟩
                     · exact Held.drew (by assumption)
                     · (show World.cell? _ _ = _; assumption)
                     · (show World.cell? _ _ = _; assumption)
                     · (show World.cell? _ _ = _; assumption)
                     · (show World.cell? _ _ = _; assumption)
                     · (show World.cell? _ _ = _; assumption)
                     · (show World.cell? _ _ = _; assumption)
                     · exact Rd.drew (by assumption)
                     · exact Rd.drew (by assumption)
                     · exact run_toText (P := Tryd.prog) 32 9 5 Tryd.underlying32 Tryd.underlying5 Tryd.underlying9 (UL.out _ (Rd.drew (by assumption)))
                     · exact run_toText (P := Tryd.prog) 32 9 5 Tryd.underlying32 Tryd.underlying5 Tryd.underlying9 (UM.out _ (Rd.drew (by assumption))))
                  | go_keep)
                (first
                  | (go_at_call 16; (try go_split_ands); refine (SH.out _ _ _ (by first | exact PA.out | exact PB.out) _ (Held.vars (w := w) (by assumption))).mono ?_; rintro e wx ⟨rfl, bb⟩))
              go_wp2
              all_goals go_ret
              all_goals (try go_split_ands)
              all_goals exact ⟨rfl, Held.bel (w := w) (by assumption)⟩
            | false =>
              have hne : ¬ showB ka na sa = showB kb nb sb := fun e => by
                have h := show_inj (k := ka) (n := na) (s := sa.data.toList) (k' := kb) (n' := nb) (s' := sb.data.toList) hra hrb (congrArg (fun x : ByteArray => x.data.toList) e)
                have : sameZ ka na sa kb nb sb = true := by rw [h.1, h.2.1, show sa = sb from ba_ext h.2.2]; simp [sameZ]
                rw [this] at hd; cases hd
              have hnt : ¬ textOf (ll.take kk) = textOf (lm.take kk) := fun e => by
                have h1 : ∀ x ∈ ll.take kk, 0 ≤ x ∧ x ≤ 255 := fun x hx => bytes_rng ka na sa ⟨(rightZ_n hra).1, (rightZ_n hra).2⟩ (by omega) x (by rw [hll.out.1] at hx; exact List.mem_of_mem_take hx)
                have h2 : ∀ x ∈ lm.take kk, 0 ≤ x ∧ x ≤ 255 := fun x hx => bytes_rng kb nb sb ⟨(rightZ_n hrb).1, (rightZ_n hrb).2⟩ (by omega) x (by rw [hlm.out.1] at hx; exact List.mem_of_mem_take hx)
                have h3 := textOf_inj h1 h2 e
                rw [hll.out.1, hlm.out.1] at h3
                have h := bytes_free hra hrb (m := kk) (by rw [← hll.out.2, ← hlm.out.2]; exact hkk) h3
                have : sameZ ka na sa kb nb sb = true := by rw [h.1, h.2.1, h.2.2]; simp [sameZ]
                rw [this] at hd; cases hd
              have hn3 : ¬ (showB ka na sa).toList = (showB kb nb sb).toList := toList_ne hne
              have hn4 : ((showB ka na sa).toList == (showB kb nb sb).toList) = false := by simpa using hn3
              have hn5 : ((showB kb nb sb).toList == (showB ka na sa).toList) = false := by simpa using fun e => hn3 e.symm
              have hn6 : ¬ (textOf (ll.take kk)).toList = (textOf (lm.take kk)).toList := toList_ne hnt
              have hn7 : ((textOf (ll.take kk)).toList == (textOf (lm.take kk)).toList) = false := by simpa using hn6
              clear hkk hrd hb1 hqa hra hrb hne hnt
              go_enter Tryd.func7, Tryd.ntmps7
              go_wp2_with fail
              refine (AW.out _ H1.vars).mono ?_
              rintro e w1 ⟨rfl, b1⟩
              have H2 := H1.next b1
              have ra := row_below RA.out b1; have rb := row_below RB.out b1
              clear b1
              have a0 := cell_row ra 0; have a1 := cell_row ra 1; have a2 := cell_row ra 2
              have b0 := cell_row rb 0; have b1 := cell_row rb 1; have b2 := cell_row rb 2
              simp only [List.getElem?_toArray, List.getElem?_cons_zero, List.getElem?_cons_succ] at a0 a1 a2 b0 b1 b2
              go_wp2_with fail
              refine (CRa.out _).mono ?_
              rintro e w2 ⟨rfl, bb⟩
              have H3 := H2.next bb
              clear a0 a1 a2 b0 b1 b2
              have ra := row_below ra bb; have rb := row_below rb bb
              have a0 := cell_row ra 0; have a1 := cell_row ra 1; have a2 := cell_row ra 2
              have b0 := cell_row rb 0; have b1 := cell_row rb 1; have b2 := cell_row rb 2
              simp only [List.getElem?_toArray, List.getElem?_cons_zero, List.getElem?_cons_succ] at a0 a1 a2 b0 b1 b2
              go_wp2_with fail
              refine (CRb.out _).mono ?_
              rintro e w3 ⟨rfl, bb⟩
              have H4 := H3.next bb
              clear a0 a1 a2 b0 b1 b2
              have ra := row_below ra bb; have rb := row_below rb bb
              have a0 := cell_row ra 0; have a1 := cell_row ra 1; have a2 := cell_row ra 2
              have b0 := cell_row rb 0; have b1 := cell_row rb 1; have b2 := cell_row rb 2
              simp only [List.getElem?_toArray, List.getElem?_cons_zero, List.getElem?_cons_succ] at a0 a1 a2 b0 b1 b2
              go_wp2_with fail
              refine (SHa.out _ H4.vars).mono ?_
              rintro e w4 ⟨rfl, bb⟩
              have H5 := H4.next bb
              clear a0 a1 a2 b0 b1 b2
              have ra := row_below ra bb; have rb := row_below rb bb
              have a0 := cell_row ra 0; have a1 := cell_row ra 1; have a2 := cell_row ra 2
              have b0 := cell_row rb 0; have b1 := cell_row rb 1; have b2 := cell_row rb 2
              simp only [List.getElem?_toArray, List.getElem?_cons_zero, List.getElem?_cons_succ] at a0 a1 a2 b0 b1 b2
              go_wp2_with fail
              refine (CRd.out _ H5.vars).mono ?_
              rintro e w5 ⟨rfl, bb⟩
              have H6 := (H5.next bb).alloc (.cells #[.int .i64 ka, .int .i64 na, .string sa] 23)
              clear a0 a1 a2 b0 b1 b2
              have ra := row_below (row_below ra bb) (below_new (Below.refl _ _) (.cells #[.int .i64 ka, .int .i64 na, .string sa] 23)); have rb := row_below (row_below rb bb) (below_new (Below.refl _ _) (.cells #[.int .i64 ka, .int .i64 na, .string sa] 23))
              have rx := heap_alloc_new w5 (.cells #[.int .i64 ka, .int .i64 na, .string sa] 23)
              have a0 := cell_row ra 0; have a1 := cell_row ra 1; have a2 := cell_row ra 2
              have b0 := cell_row rb 0; have b1 := cell_row rb 1; have b2 := cell_row rb 2
              simp only [List.getElem?_toArray, List.getElem?_cons_zero, List.getElem?_cons_succ] at a0 a1 a2 b0 b1 b2
              go_wp2_with fail
              refine (CBa.out _).mono ?_
              rintro e w6 ⟨Al, cl, rfl, rdl, bb⟩
              have H7 := H6.next bb
              clear a0 a1 a2 b0 b1 b2
              have ra := row_below ra bb; have rb := row_below rb bb; have rx := row_below rx bb
              have a0 := cell_row ra 0; have a1 := cell_row ra 1; have a2 := cell_row ra 2
              have b0 := cell_row rb 0; have b1 := cell_row rb 1; have b2 := cell_row rb 2
              simp only [List.getElem?_toArray, List.getElem?_cons_zero, List.getElem?_cons_succ] at a0 a1 a2 b0 b1 b2
              go_wp2_with fail
              refine (CBb.out _).mono ?_
              rintro e w7 ⟨Am, cm, rfl, rdm, bb⟩
              have H8 := H7.next bb
              clear a0 a1 a2 b0 b1 b2
              have ra := row_below ra bb; have rb := row_below rb bb; have rx := row_below rx bb; have rdl := rdl.below bb
              clear bb
              have hown0 : (w7.alloc (.cells #[] 5)).ownsRow w7.heap.size 5 1 (.slice (some ⟨w7.heap.size, 0, none⟩) 0 0) 0 [] := own_built w7 w7.heap.size 5 [] (Nat.le_refl _) (by simp)
              have hb0 : Below w7.heap.size w7 (w7.alloc (.cells #[] 5)) := below_new (Below.refl _ _) _
              have hz0 : w7.heap.size ≤ (w7.alloc (.cells #[] 5)).heap.size := by simp
              have HL7 := Lib.hid rdl; have HM7 := Lib.hid rdm
              go_wp2_with (first
                | (at_builtin; refine wpList_appS rfl (.tmp 55) (.tmp 56) _ rfl 5 Tryd.underlying32 _ 1 Tryd.infoByte rfl (by decide) w7.heap.size _ 0 [] _ _ _ (vals .u8 ll) rfl rfl hown0 (HL7.out.below hb0) (vals_one _ _) (by omega) hb0 hz0 ?_; intro A8 c8 w8 hown1 rd1 hbel1 hsz1; simp only [Nat.zero_add, List.nil_append] at hown1 rd1 ⊢)
                | (at_builtin; refine wpList_appS rfl (.tmp 57) (.tmp 58) _ rfl 5 Tryd.underlying32 _ 1 Tryd.infoByte rfl (by decide) w7.heap.size _ la (vals .u8 ll) _ _ _ (vals .u8 l1) rfl rfl hown1 (HMO.out _ (below_then H8.bel hbel1)) (vals_one _ _) (by omega) hbel1 hsz1 ?_; intro A9 c9 w9 hown2 rd2 hbel2 hsz2)
                | fail)
              refine (CGt.out _ _ _ (by rw [vals, List.map_append]; exact rd2)).mono ?_
              rintro e w10 ⟨rfl, bb⟩
              have b10 : Below w7.heap.size w7 w10 := below_then hbel2 bb
              have H9 := (H8.next b10).alloc (.cells #[.int .i64 ka, .int .i64 na, .string sa] 23)
              have ra := row_below (row_below ra b10) (below_new (Below.refl _ _) (.cells #[.int .i64 ka, .int .i64 na, .string sa] 23)); have rb := row_below (row_below rb b10) (below_new (Below.refl _ _) (.cells #[.int .i64 ka, .int .i64 na, .string sa] 23))
              have rx := row_below (row_below rx b10) (below_new (Below.refl _ _) (.cells #[.int .i64 ka, .int .i64 na, .string sa] 23))
              have ry := heap_alloc_new w10 (.cells #[.int .i64 ka, .int .i64 na, .string sa] 23)
              have rdl := (rdl.below b10).alloc (.cells #[.int .i64 ka, .int .i64 na, .string sa] 23)
              have rdm := (rdm.below b10).alloc (.cells #[.int .i64 ka, .int .i64 na, .string sa] 23)
              have a0 := cell_row ra 0; have a1 := cell_row ra 1; have a2 := cell_row ra 2
              have b0 := cell_row rb 0; have b1 := cell_row rb 1; have b2 := cell_row rb 2
              have x0 := cell_row rx 0; have x1 := cell_row rx 1; have x2 := cell_row rx 2
              have y0 := cell_row ry 0; have y1 := cell_row ry 1; have y2 := cell_row ry 2
              simp only [List.getElem?_toArray, List.getElem?_cons_zero, List.getElem?_cons_succ] at a0 a1 a2 b0 b1 b2 x0 x1 x2 y0 y1 y2
              have hupL := fun W => run_upto (A := Al) (n := la) (c := cl) (m := kk) (by have := rdl.cap; omega) W
              have hupM := fun W => run_upto (A := Am) (n := lb) (c := cm) (m := kk) (by have := rdm.cap; omega) W
              clear bb hown0 hb0 hz0 hown1 rd1 hbel1 hsz1 hown2 rd2 hbel2 hsz2 b10 H2 H3 H4 H5 H6 H7 H8
              have UL : Hid (∀ W, Rd W Al la cl (vals .u8 ll) → Rd W Al kk cl (vals .u8 (ll.take kk))) := Lib.hid fun W h => by
                have := h.upto (k := kk) (m := cl) (by omega) (by have := h.cap; omega) (Nat.le_refl _)
                rw [vals, List.map_take]; exact this
              have UM : Hid (∀ W, Rd W Am lb cm (vals .u8 lm) → Rd W Am kk cm (vals .u8 (lm.take kk))) := Lib.hid fun W h => by
                have := h.upto (k := kk) (m := cm) (by omega) (by have := h.cap; omega) (Nat.le_refl _)
                rw [vals, List.map_take]; exact this
              have eqL := run_toText (P := Tryd.prog) 32 9 5 Tryd.underlying32 Tryd.underlying5 Tryd.underlying9 (UL.out _ rdl)
              have eqM := run_toText (P := Tryd.prog) 32 9 5 Tryd.underlying32 Tryd.underlying5 Tryd.underlying9 (UM.out _ rdm)
              clear ra rb rx ry HL7 HM7
              go_wp2_with fail
              go_region_held3 (fun W => Held w W ∧ W.cell? ⟨w.heap.size, 0, none⟩ = some (.int .i64 ka) ∧ W.cell? ⟨w.heap.size, 1, none⟩ = some (.int .i64 na) ∧ W.cell? ⟨w.heap.size, 2, none⟩ = some (.string sa) ∧ W.cell? ⟨w.heap.size + 1, 0, none⟩ = some (.int .i64 kb) ∧ W.cell? ⟨w.heap.size + 1, 1, none⟩ = some (.int .i64 nb) ∧ W.cell? ⟨w.heap.size + 1, 2, none⟩ = some (.string sb) ∧ Rd W Al la cl (vals .u8 ll) ∧ Rd W Am lb cm (vals .u8 lm) ∧
                  (convert 32 9 (.slice Al kk cl)).run Tryd.prog W = .ok (.string (textOf (ll.take kk))) W ∧ (convert 32 9 (.slice Am kk cm)).run Tryd.prog W = .ok (.string (textOf (lm.take kk))) W)
                (first
                  | (go_split_ands
                     refine ⟨?_, ?_, ?_, ?_, ?_, ?_, ?_, ?_, ?_, ?_, ?_⟩
                     · exact Held.next (by assumption) bb
                     · exact (bb.cell (World.block_lt_of_cell? _ _ (by assumption))).trans (by assumption)
                     · exact (bb.cell (World.block_lt_of_cell? _ _ (by assumption))).trans (by assumption)
                     · exact (bb.cell (World.block_lt_of_cell? _ _ (by assumption))).trans (by assumption)
                     · exact (bb.cell (World.block_lt_of_cell? _ _ (by assumption))).trans (by assumption)
                     · exact (bb.cell (World.block_lt_of_cell? _ _ (by assumption))).trans (by assumption)
                     · exact (bb.cell (World.block_lt_of_cell? _ _ (by assumption))).trans (by assumption)
                     · exact Rd.below (by assumption) bb
                     · exact Rd.below (by assumption) bb
                     · exact run_toText (P := Tryd.prog) 32 9 5 Tryd.underlying32 Tryd.underlying5 Tryd.underlying9 (UL.out _ (Rd.below (by assumption) bb))
                     · exact run_toText (P := Tryd.prog) 32 9 5 Tryd.underlying32 Tryd.underlying5 Tryd.underlying9 (UM.out _ (Rd.below (by assumption) bb)))
                  | (go_split_ands
                     refine ⟨?_, ?_, ?_, ?_, ?_, ?_, ?_, ?_, ?_, ?_, ?_⟩
                     · exact Held.drew (by assumption)
                     · (show World.cell? _ _ = _; assumption)
                     · (show World.cell? _ _ = _; assumption)
                     · (show World.cell? _ _ = _; assumption)
                     · (show World.cell? _ _ = _; assumption)
                     · (show World.cell? _ _ = _; assumption)
                     · (show World.cell? _ _ = _; assumption)
                     · exact Rd.drew (by assumption)
                     · exact Rd.drew (by assumption)
                     · exact run_toText (P := Tryd.prog) 32 9 5 Tryd.underlying32 Tryd.underlying5 Tryd.underlying9 (UL.out _ (Rd.drew (by assumption)))
                     · exact run_toText (P := Tryd.prog) 32 9 5 Tryd.underlying32 Tryd.underlying5 Tryd.underlying9 (UM.out _ (Rd.drew (by assumption))))
                  | go_keep)
                (first
                  | (go_at_call 16; (try go_split_ands); refine (SH.out _ _ _ (by first | exact PA.out | exact PB.out) _ (Held.vars (w := w) (by assumption))).mono ?_; rintro e wx ⟨rfl, bb⟩))
              go_wp2
              all_goals go_ret
              all_goals (try go_split_ands)
              all_goals exact ⟨rfl, Held.bel (w := w) (by assumption)⟩
          | false =>
            have CRb : Hid (∀ W, Calls Tryd.prog 10 #[.agg #[.int .i64 kb, .int .i64 nb, .string sb]] W fun e w' => e = .returned (.bool false) ∧ Below W.heap.size W w') := Lib.hid fun W => by
              have := right_any kb nb sb W (by omega); rwa [hrb] at this
            go_enter Tryd.func7, Tryd.ntmps7
            go_wp2_with fail
            refine (AW.out _ H1.vars).mono ?_
            rintro e w1 ⟨rfl, b1⟩
            have H2 := H1.next b1
            have ra := row_below RA.out b1; have rb := row_below RB.out b1
            clear b1
            have a0 := cell_row ra 0; have a1 := cell_row ra 1; have a2 := cell_row ra 2
            have b0 := cell_row rb 0; have b1 := cell_row rb 1; have b2 := cell_row rb 2
            simp only [List.getElem?_toArray, List.getElem?_cons_zero, List.getElem?_cons_succ] at a0 a1 a2 b0 b1 b2
            go_wp2_with fail
            refine (CRa.out _).mono ?_
            rintro e w2 ⟨rfl, bb⟩
            have H3 := H2.next bb
            clear a0 a1 a2 b0 b1 b2
            have ra := row_below ra bb; have rb := row_below rb bb
            have a0 := cell_row ra 0; have a1 := cell_row ra 1; have a2 := cell_row ra 2
            have b0 := cell_row rb 0; have b1 := cell_row rb 1; have b2 := cell_row rb 2
            simp only [List.getElem?_toArray, List.getElem?_cons_zero, List.getElem?_cons_succ] at a0 a1 a2 b0 b1 b2
            go_wp2_with fail
            refine (CRb.out _).mono ?_
            rintro e w3 ⟨rfl, bb⟩
            have H4 := H3.next bb
            clear a0 a1 a2 b0 b1 b2
            have ra := row_below ra bb; have rb := row_below rb bb
            have a0 := cell_row ra 0; have a1 := cell_row ra 1; have a2 := cell_row ra 2
            have b0 := cell_row rb 0; have b1 := cell_row rb 1; have b2 := cell_row rb 2
            simp only [List.getElem?_toArray, List.getElem?_cons_zero, List.getElem?_cons_succ] at a0 a1 a2 b0 b1 b2
            go_wp2
            all_goals go_ret
            all_goals exact ⟨rfl, H4.bel⟩
        | false =>
          have CRa : Hid (∀ W, Calls Tryd.prog 10 #[.agg #[.int .i64 ka, .int .i64 na, .string sa]] W fun e w' => e = .returned (.bool false) ∧ Below W.heap.size W w') := Lib.hid fun W => by
            have := right_any ka na sa W (by omega); rwa [hra] at this
          go_enter Tryd.func7, Tryd.ntmps7
          go_wp2_with fail
          refine (AW.out _ H1.vars).mono ?_
          rintro e w1 ⟨rfl, b1⟩
          have H2 := H1.next b1
          have ra := row_below RA.out b1; have rb := row_below RB.out b1
          clear b1
          have a0 := cell_row ra 0; have a1 := cell_row ra 1; have a2 := cell_row ra 2
          have b0 := cell_row rb 0; have b1 := cell_row rb 1; have b2 := cell_row rb 2
          simp only [List.getElem?_toArray, List.getElem?_cons_zero, List.getElem?_cons_succ] at a0 a1 a2 b0 b1 b2
          go_wp2_with fail
          refine (CRa.out _).mono ?_
          rintro e w2 ⟨rfl, bb⟩
          have H3 := H2.next bb
          clear a0 a1 a2 b0 b1 b2
          have ra := row_below ra bb; have rb := row_below rb bb
          have a0 := cell_row ra 0; have a1 := cell_row ra 1; have a2 := cell_row ra 2
          have b0 := cell_row rb 0; have b1 := cell_row rb 1; have b2 := cell_row rb 2
          simp only [List.getElem?_toArray, List.getElem?_cons_zero, List.getElem?_cons_succ] at a0 a1 a2 b0 b1 b2
          go_wp2
          all_goals go_ret
          all_goals exact ⟨rfl, H3.bel⟩
      · have gn : (300 : Int) < n1 := by omega
        go_enter Tryd.func7, Tryd.ntmps7
        go_wp2_with fail
        refine (AW.out _ H1.vars).mono ?_
        rintro e w1 ⟨rfl, b1⟩
        have H2 := H1.next b1
        have ra := row_below RA.out b1; have rb := row_below RB.out b1
        clear b1
        have a0 := cell_row ra 0; have a1 := cell_row ra 1; have a2 := cell_row ra 2
        have b0 := cell_row rb 0; have b1 := cell_row rb 1; have b2 := cell_row rb 2
        simp only [List.getElem?_toArray, List.getElem?_cons_zero, List.getElem?_cons_succ] at a0 a1 a2 b0 b1 b2
        go_wp2
        all_goals go_ret
        all_goals exact ⟨rfl, H2.bel⟩
    · have gb : (300 : Int) < sb.size := by omega
      go_enter Tryd.func7, Tryd.ntmps7
      go_wp2_with fail
      refine (AW.out _ H1.vars).mono ?_
      rintro e w1 ⟨rfl, b1⟩
      have H2 := H1.next b1
      have ra := row_below RA.out b1; have rb := row_below RB.out b1
      clear b1
      have a0 := cell_row ra 0; have a1 := cell_row ra 1; have a2 := cell_row ra 2
      have b0 := cell_row rb 0; have b1 := cell_row rb 1; have b2 := cell_row rb 2
      simp only [List.getElem?_toArray, List.getElem?_cons_zero, List.getElem?_cons_succ] at a0 a1 a2 b0 b1 b2
      go_wp2
      all_goals go_ret
      all_goals exact ⟨rfl, H2.bel⟩
  · have ga : (300 : Int) < sa.size := by omega
    go_enter Tryd.func7, Tryd.ntmps7
    go_wp2_with fail
    refine (AW.out _ H1.vars).mono ?_
    rintro e w1 ⟨rfl, b1⟩
    have H2 := H1.next b1
    have ra := row_below RA.out b1; have rb := row_below RB.out b1
    clear b1
    have a0 := cell_row ra 0; have a1 := cell_row ra 1; have a2 := cell_row ra 2
    have b0 := cell_row rb 0; have b1 := cell_row rb 1; have b2 := cell_row rb 2
    simp only [List.getElem?_toArray, List.getElem?_cons_zero, List.getElem?_cons_succ] at a0 a1 a2 b0 b1 b2
    go_wp2
    all_goals go_ret
    all_goals exact ⟨rfl, H2.bel⟩

theorem contract (H : Type) (enc : TypeId × Value → H) (W : World) (base : Nat) (args : Array Value) (ds gs : List (DataW H)) (before : List MemPlace)
    (hval : ∀ (j : Nat) t v, Tryd.f7.params[j]? = some t → args[j]? = some v → Value.okWide Tryd.prog W .any base t v)
    (hW : DataW.Whole enc Tryd.prog Tryd.f7.params.toList Rows.valueBackSpec.vars false W args.toList ds gs before) (hL : laidMetH Tryd.prog Rows.valueBackRow.laid W) (hS : W.ShapedOpen Tryd.prog) :
    Calls Tryd.prog 7 args W fun e W' => ∃ v, e = .returned v ∧ Rows.valueBackSpec.post enc Tryd.prog Tryd.f7 false true false false W args v W' := by
  have hlt : ∀ x ∈ before, x.block < W.heap.size := fun x hx => by simpa using hW.lt x hx
  have hvars : Vars W := vars_of hL hS
  refine law_step 4 Tryd.laid_ (by kernel_rfl) rfl Tryd.underlying4 rfl hW (fun xs hx => ?_) ?_
  · match xs, hx with
    | [d0, d1, d2], _ => rfl
  · obtain ⟨p, q, hA0, hV, rfl, _, _⟩ := hW
    have hA : DataW.TrodAll enc Tryd.prog W 0 (fun _ => true) true Tryd.f7.params.toList args.toList ds p := hA0
    rw [Tryd.params7] at hA hval
    obtain ⟨v0, vs0, d0, ds0, p0, q0, e0, rfl, rfl, h0, r0⟩ := trodAll_cons hA
    obtain ⟨v1, vs1, d1, ds1, p1, q1, e1, rfl, rfl, h1, r1⟩ := trodAll_cons r0
    obtain ⟨v2, vs2, d2, ds2, p2, q2, e2, rfl, rfl, h2, r2⟩ := trodAll_cons r1
    obtain ⟨rfl, rfl, rfl⟩ := trodAll_nil r2
    subst e2
    subst e1
    obtain rfl : args = #[v0, v1, v2] := by cases args; simp_all
    clear e0 hA0
    obtain ⟨x0, y0, z0, dx0, dy0, dz0, m0, rfl, rfl, rfl, tx0, ty0, tz0⟩ := Go.Joins.open_agg3 Tryd.underlying23 (by kernel_rfl) (by kernel_rfl) (hval 0 23 v0 rfl rfl) h0
    obtain ⟨ka, ek0, _, wk0⟩ := DataW.trod_int Tryd.underlying3 tx0
    obtain ⟨na, en0, _, wn0⟩ := DataW.trod_int Tryd.underlying3 ty0
    obtain ⟨sa, es0, _, ws0⟩ := DataW.trod_string Tryd.underlying9 tz0
    obtain rfl := List.singleton_inj.1 ek0
    obtain rfl := List.singleton_inj.1 en0
    obtain rfl := List.singleton_inj.1 es0
    obtain ⟨lok0, hik0⟩ := wf_i64 wk0
    obtain ⟨lon0, hin0⟩ := wf_i64 wn0
    obtain ⟨x1, y1, z1, dx1, dy1, dz1, m1, rfl, rfl, rfl, tx1, ty1, tz1⟩ := Go.Joins.open_agg3 Tryd.underlying23 (by kernel_rfl) (by kernel_rfl) (hval 1 23 v1 rfl rfl) h1
    obtain ⟨kb, ek1, _, wk1⟩ := DataW.trod_int Tryd.underlying3 tx1
    obtain ⟨nb, en1, _, wn1⟩ := DataW.trod_int Tryd.underlying3 ty1
    obtain ⟨sb, es1, _, ws1⟩ := DataW.trod_string Tryd.underlying9 tz1
    obtain rfl := List.singleton_inj.1 ek1
    obtain rfl := List.singleton_inj.1 en1
    obtain rfl := List.singleton_inj.1 es1
    obtain ⟨lok1, hik1⟩ := wf_i64 wk1
    obtain ⟨lon1, hin1⟩ := wf_i64 wn1
    obtain ⟨A2, n2, c2, l1, rfl, rd2, wf2⟩ := open_sl (k := .u8) Tryd.underlying32 Tryd.underlying5 (by kernel_rfl) (hval 2 32 v2 rfl rfl) h2 (fun x hx => hlt x (by simp [hx]))
    exact walk ka na kb nb sa sb A2 n2 c2 l1 W rd2 (fun x hx => wf_u8 (wf2 x hx)) hvars

theorem reads (os : Os) {H : Type} (enc : TypeId × Value → H) : ∃ places, DataW.whole enc Tryd.prog ((laidWorld os).forCall (fun _ _ => 0) ⟨#[], #[.agg #[.int .i64 0, .int .i64 0, .string ⟨#[]⟩], .agg #[.int .i64 0, .int .i64 0, .string ⟨#[]⟩], .slice none 0 0], []⟩).memory Tryd.f7.params.toList Rows.valueBackSpec.vars false #[.agg #[.int .i64 0, .int .i64 0, .string ⟨#[]⟩], .agg #[.int .i64 0, .int .i64 0, .string ⟨#[]⟩], .slice none 0 0].toList 8 = some ([.agg [.lit (.int .i64 0), .lit (.int .i64 0), .lit (.string [])], .agg [.lit (.int .i64 0), .lit (.int .i64 0), .lit (.string [])], .nil], [], places) :=
  ⟨[], by kernel_rfl⟩

theorem lifted (os : Os) (started : os.Started) (H : Type) (enc : TypeId × Value → H) (F : Stop.Interp) :
    ReturnsInHanded {} Tryd.checked os 7 .any ((OpenSpec.ofChange Rows.valueBackSpec).preRow enc Tryd.prog Tryd.f7 Rows.valueBackRow.domain false Rows.valueBackRow.laid) (((OpenSpec.ofChange Rows.valueBackSpec).at F).post enc Tryd.prog Tryd.f7 false true false false) := by
  obtain ⟨places, hx⟩ := reads os enc
  refine returnsInHanded_of_row (C := Tryd.checked) (s := OpenSpec.ofChange Rows.valueBackSpec) Tryd.own_ started (by kernel_rfl) Tryd.func7
    (witness_row_atRef (enc := enc) (C := Tryd.checked) false (laidWorld os) #[.agg #[.int .i64 0, .int .i64 0, .string ⟨#[]⟩], .agg #[.int .i64 0, .int .i64 0, .string ⟨#[]⟩], .slice none 0 0] rfl (laid_vars os _) (laid_begin os _) (by kernel_rfl)
      (OpenSpec.preRow_of_cond 8 hx (by kernel_rfl) (fun k hk => by cases hk) (by kernel_rfl) (laid_met os _))) ?_
  intro W base args ds gs before hval hW _ _ _ hL hS _
  exact contract H enc W base args ds gs before hval hW hL hS

theorem said : Rows.ValueBackSaid :=
  OpenClaim.holds_of_cond 7 Tryd.f7 rfl rfl rfl rfl rfl rfl rfl ⟨rfl, rfl, rfl, rfl, rfl⟩ rfl rfl rfl rfl rfl (by kernel_rfl) Tryd.func7 (by kernel_rfl)
    (of_decide_eq_true (by kernel_rfl)) (by unfold Func.isWrapper; first | (rw [if_pos (by decide +kernel)]; kernel_rfl) | (rw [if_neg (by decide +kernel)]; exact ⟨rfl, rfl⟩))
    (fun os started H enc _ F => by rw [OpenClaim.pre_eq_preRow]; exact lifted os started H enc F)

theorem plain (f : FuncId) (fn : Func) (hf : Tryd.pinned.checked.prog.funcNamed "homestead/homesteadlaw02.ValueBack" = some f) (hfn : Tryd.pinned.checked.prog.funcs[f]? = some fn) :
    true = Tryd.pinned.checked.prog.looks [] ∧ ∀ (j : Nat) t, fn.params[j]? = some t → Tryd.pinned.checked.prog.wantsStandIn t = false := by
  obtain rfl : f = 7 := Option.some.inj ((show Tryd.prog.funcNamed "homestead/homesteadlaw02.ValueBack" = some 7 by kernel_rfl).symm.trans hf) |>.symm
  obtain rfl : fn = Tryd.f7 := (Option.some.inj (Tryd.func7.symm.trans hfn)).symm
  refine ⟨by kernel_rfl, fun j t ht => ?_⟩
  rw [Tryd.params7] at ht
  have hm : t ∈ [23, 23, 32] := by simpa using Array.mem_of_getElem? ht
  have hall : [23, 23, 32].all (fun t => !Tryd.prog.wantsStandIn t) = true := by kernel_rfl
  exact (show Tryd.prog.wantsStandIn t = false from by simpa using List.all_eq_true.1 hall t hm)

theorem card : Rows.ValueBackCardSaid :=
  Claim7.holds_tied_plain_at .later [] _ _ _ _ said (fun _ h => by cases h) (by kernel_rfl) (fun _ h => by cases h) valueBack_row_tie rfl ⟨rfl, rfl⟩ (by kernel_rfl) rfl plain (by kernel_rfl)
end Go.Proofs.YtkicjhphiibifaaDoor.valueBack
