/- Layer 12: the maps of all kinds of expressions. -/
import Derived.Test.YtkpkkkmokgmhfaaExpNot
namespace Go.Proofs.Ytkpkkkmokgmhfaa
set_option maxRecDepth 100000
open Go.RowKit Go.MapKept

abbrev lang0Box : Obj := .cells #[.map none, .map none] 57
abbrev leaf0V : Value := .agg #[fnV 38, fnV 39, fnV 40]
abbrev leaf1V : Value := .agg #[fnV 41, fnV 42, fnV 43]
/-- maps that are being made -/
structure MadeO (w0 : World) (g1 g2 : Nat) (es1 es2 : List (EnK Int)) (c2 : Nat) (w : World) : Prop where
  bel : Below w0.heap.size w0 w
  top : w.heap[w0.heap.size]? = some lang0Box
  m1 : ∃ c, w.heap[g1]? = some (mapO intK es1 c)
  m2 : w.heap[g2]? = some (mapO intK es2 c2)
  l1 : w0.heap.size < g1
  l2 : g1 < g2
theorem lt_of_row {w : World} {b g : Nat} {o : Obj} (h : w.heap[b]? = some o) (hb : g < b) : g < w.heap.size := Nat.lt_trans hb (Array.getElem?_eq_some_iff.1 h).1
theorem MadeO.call {w0 : World} {g1 g2 : Nat} {es1 es2 : List (EnK Int)} {c2 : Nat} {w w' : World} (h : MadeO w0 g1 g2 es1 es2 c2 w) (b : Below w.heap.size w w') : MadeO w0 g1 g2 es1 es2 c2 w' :=
  ⟨below_then h.bel b, row_below h.top b, h.m1.imp fun _ q => row_below q b, row_below h.m2 b, h.l1, h.l2⟩
theorem MadeO.put {w0 : World} {g1 g2 : Nat} {es1 es2 : List (EnK Int)} {c2 : Nat} {w : World} (h : MadeO w0 g1 g2 es1 es2 c2 w) (k : Int) (v : Value) (hn : lookE es2 k = none) :
    ∃ w', (Instr.mapUpdate 55 (.map (some g2)) (.int .i64 k) v).run Try.prog w = .ok () w' ∧ Hid (MadeO w0 g1 g2 es1 (es2 ++ [⟨k, v, c2⟩]) (c2 + 1) w') ∧ Hid (∀ b o, g2 < b → w.heap[b]? = some o → w'.heap[b]? = some o) := by
  have l1 := h.l1; have l2 := h.l2
  refine ⟨_, run_putI Try.mapOp_ Try.underlying3 h.m2 k v hn, ⟨below_putBlock h.bel (by omega), ?_, ?_, putBlock_at h.m2, h.l1, h.l2⟩, fun b o hb ho => ?_⟩
  · rw [putBlock_other _ _ (by omega)]; exact h.top
  · exact h.m1.imp fun _ q => by rw [putBlock_other _ _ (by omega)]; exact q
  · rw [putBlock_other _ _ (by omega)]; exact ho

theorem reckoned_ex (F : Nat) (w : World) (g : Nat) (hg : g < w.heap.size) : Calls Try.prog 45 #[fnV F] w fun e w' => ∃ b, e = .returned (.func (.func 66) #[] #[.pointer (some ⟨b, 0, none⟩)]) ∧ g < b ∧ w'.heap[b]? = some (reckonedBox F) ∧ Below w.heap.size w w' :=
  (reckoned_any F w).mono fun _ _ ⟨h1, h2, h3⟩ => ⟨_, h1, hg, h2, h3⟩
theorem compared_ex (F : Nat) (w : World) (g : Nat) (hg : g < w.heap.size) : Calls Try.prog 50 #[fnV F] w fun e w' => ∃ b, e = .returned (.func (.func 68) #[] #[.pointer (some ⟨b, 0, none⟩)]) ∧ g < b ∧ w'.heap[b]? = some (comparedBox F) ∧ Below w.heap.size w w' :=
  (compared_any F w).mono fun _ _ ⟨h1, h2, h3⟩ => ⟨_, h1, hg, h2, h3⟩
abbrev opEnts (b2 b3 b4 b5 b6 : Nat) : List (EnK Int) := [⟨2, (⟨2, 44, 66, #[.pointer (some ⟨b2, 0, none⟩)]⟩ : OpT).val, 0⟩, ⟨3, (⟨2, 44, 66, #[.pointer (some ⟨b3, 0, none⟩)]⟩ : OpT).val, 1⟩, ⟨4, (⟨2, 44, 66, #[.pointer (some ⟨b4, 0, none⟩)]⟩ : OpT).val, 2⟩, ⟨5, (⟨2, 49, 68, #[.pointer (some ⟨b5, 0, none⟩)]⟩ : OpT).val, 3⟩, ⟨6, (⟨2, 49, 68, #[.pointer (some ⟨b6, 0, none⟩)]⟩ : OpT).val, 4⟩, ⟨7, (⟨2, 44, 53, #[]⟩ : OpT).val, 5⟩, ⟨8, (⟨2, 44, 54, #[]⟩ : OpT).val, 6⟩, ⟨9, (⟨1, 44, 55, #[]⟩ : OpT).val, 7⟩, ⟨10, (⟨1, 56, 57, #[]⟩ : OpT).val, 8⟩]
theorem lang_of {w : World} {g1 g2 b2 b3 b4 b5 b6 c2 : Nat} (h1 : ∃ c, w.heap[g1]? = some (mapO intK [⟨0, leaf0V, 0⟩, ⟨1, leaf1V, 1⟩] c)) (h2 : w.heap[g2]? = some (mapO intK (opEnts b2 b3 b4 b5 b6) c2))
    (r2 : w.heap[b2]? = some (reckonedBox 46)) (r3 : w.heap[b3]? = some (reckonedBox 47)) (r4 : w.heap[b4]? = some (reckonedBox 48))
    (r5 : w.heap[b5]? = some (comparedBox 51)) (r6 : w.heap[b6]? = some (comparedBox 52)) : Lang w g1 g2 := by
  obtain ⟨c1, h1⟩ := h1
  refine ⟨⟨_, c1, h1, fun k => ?_⟩, _, c2, h2, fun k hk => ?_, fun k hk => ?_⟩
  · rw [leafAt, lookE, lookE, lookE]
  · rcases (show k = 2 ∨ k = 3 ∨ k = 4 ∨ k = 5 ∨ k = 6 ∨ k = 7 ∨ k = 8 ∨ k = 9 ∨ k = 10 by omega) with rfl | rfl | rfl | rfl | rfl | rfl | rfl | rfl | rfl
    · exact ⟨(⟨2, 44, 66, #[.pointer (some ⟨b2, 0, none⟩)]⟩ : OpT), rfl, rfl, Try.eg_nm, ask_numbers (by decide), Try.eg_r1, say2 _ _ r2⟩
    · exact ⟨(⟨2, 44, 66, #[.pointer (some ⟨b3, 0, none⟩)]⟩ : OpT), rfl, rfl, Try.eg_nm, ask_numbers (by decide), Try.eg_r1, say3 _ _ r3⟩
    · exact ⟨(⟨2, 44, 66, #[.pointer (some ⟨b4, 0, none⟩)]⟩ : OpT), rfl, rfl, Try.eg_nm, ask_numbers (by decide), Try.eg_r1, say4 _ _ r4⟩
    · exact ⟨(⟨2, 49, 68, #[.pointer (some ⟨b5, 0, none⟩)]⟩ : OpT), rfl, rfl, Try.eg_tg, ask_together (by decide), Try.eg_c1, say5 _ _ r5⟩
    · exact ⟨(⟨2, 49, 68, #[.pointer (some ⟨b6, 0, none⟩)]⟩ : OpT), rfl, rfl, Try.eg_tg, ask_together (by decide), Try.eg_c1, say6 _ _ r6⟩
    · exact ⟨(⟨2, 44, 53, #[]⟩ : OpT), rfl, rfl, Try.eg_nm, ask_numbers (by decide), Try.eg_an, say7 _⟩
    · exact ⟨(⟨2, 44, 54, #[]⟩ : OpT), rfl, rfl, Try.eg_nm, ask_numbers (by decide), Try.eg_or, say8 _⟩
    · exact ⟨(⟨1, 44, 55, #[]⟩ : OpT), rfl, rfl, Try.eg_nm, ask_numbers (by decide), Try.eg_no, say9 _⟩
    · exact ⟨(⟨1, 56, 57, #[]⟩ : OpT), rfl, rfl, Try.eg_we, ask_whatever, Try.eg_is, say10 _⟩
  · simp only [lookE]
    rw [if_neg (show ¬ k = 2 by omega)]
    rw [if_neg (show ¬ k = 3 by omega)]
    rw [if_neg (show ¬ k = 4 by omega)]
    rw [if_neg (show ¬ k = 5 by omega)]
    rw [if_neg (show ¬ k = 6 by omega)]
    rw [if_neg (show ¬ k = 7 by omega)]
    rw [if_neg (show ¬ k = 8 by omega)]
    rw [if_neg (show ¬ k = 9 by omega)]
    rw [if_neg (show ¬ k = 10 by omega)]

set_option maxHeartbeats 12800000 in
theorem words_any (w : World) : Calls Try.prog 26 #[] w fun e w' => ∃ g1 g2, e = .returned (langV g1 g2) ∧ Lang w' g1 g2 ∧ Below w.heap.size w w' := by
  obtain ⟨g, hg⟩ : ∃ g, Hid (w.heap.size = g) := ⟨_, rfl⟩
  obtain ⟨wa, hwa⟩ : ∃ wa, wa = (w.alloc lang0Box).alloc (.map #[] 0) := ⟨_, rfl⟩
  have T0 : wa.heap[g]? = some lang0Box := by rw [hwa, ← hg.out]; exact old_row _ (new_row _ _ rfl)
  have M0 : wa.heap[g + 1]? = some (mapO intK [] 0) := by rw [hwa, ← hg.out]; exact new_row _ _ (by simp only [World.size_alloc])
  have SA : wa.heap.size = g + 1 + 1 := by rw [hwa, ← hg.out]; simp only [World.size_alloc]
  have BA : Below w.heap.size w wa := by rw [hwa]; exact below_new (below_new (Below.refl _ _) _) _
  obtain ⟨wb, P0, Q0⟩ : ∃ wb, (Instr.mapUpdate 54 (.map (some (g + 1))) (.int .i64 0) leaf0V).run Try.prog wa = .ok () wb ∧ Hid (wb = putBlock wa (g + 1) (mapO intK ([] ++ [(⟨0, leaf0V, 0⟩ : EnK Int)]) (0 + 1))) := ⟨_, run_putI Try.mapLeaf_ Try.underlying3 M0 0 leaf0V rfl, rfl⟩
  have M1 : wb.heap[g + 1]? = some (mapO intK [⟨0, leaf0V, 0⟩] 1) := by rw [Q0.out]; exact putBlock_at M0
  have T1 : wb.heap[g]? = some lang0Box := by rw [Q0.out, putBlock_other _ _ (by omega)]; exact T0
  have SB : wb.heap.size = g + 1 + 1 := by rw [Q0.out, putBlock_size]; exact SA
  have BB : Below w.heap.size w wb := by rw [Q0.out]; exact below_putBlock BA (by rw [hg.out]; omega)
  obtain ⟨wc, P1, Q1⟩ : ∃ wc, (Instr.mapUpdate 54 (.map (some (g + 1))) (.int .i64 1) leaf1V).run Try.prog wb = .ok () wc ∧ Hid (wc = putBlock wb (g + 1) (mapO intK ([(⟨0, leaf0V, 0⟩ : EnK Int)] ++ [(⟨1, leaf1V, 1⟩ : EnK Int)]) (1 + 1))) := ⟨_, run_putI Try.mapLeaf_ Try.underlying3 M1 1 leaf1V rfl, rfl⟩
  have M2 : wc.heap[g + 1]? = some (mapO intK [⟨0, leaf0V, 0⟩, ⟨1, leaf1V, 1⟩] 2) := by rw [Q1.out]; exact putBlock_at M1
  have T2 : wc.heap[g]? = some lang0Box := by rw [Q1.out, putBlock_other _ _ (by omega)]; exact T1
  have SC : wc.heap.size = g + 1 + 1 := by rw [Q1.out, putBlock_size]; exact SB
  have BC : Below w.heap.size w wc := by rw [Q1.out]; exact below_putBlock BB (by rw [hg.out]; omega)
  obtain ⟨wd, hwd⟩ : ∃ wd, wd = wc.alloc (.map #[] 0) := ⟨_, rfl⟩
  have MD : Hid (MadeO w (g + 1) (g + 1 + 1) [⟨0, leaf0V, 0⟩, ⟨1, leaf1V, 1⟩] [] 0 wd) := by
    show MadeO _ _ _ _ _ _ _
    refine ⟨?_, ?_, ⟨2, ?_⟩, ?_, by rw [hg.out]; omega, by omega⟩
    · rw [hwd]; exact below_new BC _
    · rw [hwd, hg.out]; exact old_row _ T2
    · rw [hwd]; exact old_row _ M2
    · rw [hwd]; exact new_row _ _ SC
  have SD : Hid (g + 1 + 1 < wd.heap.size) := by show _ < _; rw [hwd, World.size_alloc, SC]; omega
  have hm0 : (Instr.makeMap 54 none).run Try.prog (w.alloc lang0Box) = .ok (.map (some (g + 1))) wa := by rw [run_makeMap, hwa, World.size_alloc, hg.out]
  have hm1 : (Instr.makeMap 55 none).run Try.prog wc = .ok (.map (some (g + 1 + 1))) wd := by rw [run_makeMap, hwd, SC]
  clear T0 M0 SA BA Q0 M1 T1 SB BB Q1 M2 T2 BC SC hwa hwd
  go_enter Try.func26, Try.ntmps26
  go_upto_region 1 with fail
  rw [hg.out]
  have C := Lib.hid (reckoned_ex 46 wd (g + 1 + 1) SD.out)
  go_wp2_with fail
  refine C.out.mono ?_
  rintro e v2 ⟨b2, rfl, lb2, rb, bb⟩
  have M2 := Lib.hid (MD.out.call bb)
  have L2 := Lib.hid lb2
  have B2 := Lib.hid rb
  have S2 : Hid (g + 1 + 1 < v2.heap.size) := Nat.lt_of_lt_of_le SD.out bb.size
  clear C lb2 rb bb MD SD hm0 P0 P1 hm1
  obtain ⟨w2, P2x, N2, O2⟩ := M2.out.put 2 (⟨2, 44, 66, #[.pointer (some ⟨b2, 0, none⟩)]⟩ : OpT).val rfl
  replace P2x : (Instr.mapUpdate 55 (.map (some (g + 1 + 1))) (.int .i64 2) (.agg #[.int .i64 2, .func (.func 44) #[] #[], .func (.func 66) #[] #[.pointer (some ⟨b2, 0, none⟩)]])).run Try.prog v2 = .ok () w2 := P2x
  have S2x : Hid (g + 1 + 1 < w2.heap.size) := lt_of_row (O2.out _ _ L2.out B2.out) L2.out
  replace B2 := Lib.hid (O2.out _ _ L2.out B2.out)
  clear O2 M2 S2
  have C := Lib.hid (reckoned_ex 47 w2 (g + 1 + 1) S2x.out)
  go_wp2_with fail
  refine C.out.mono ?_
  rintro e v3 ⟨b3, rfl, lb3, rb, bb⟩
  have M3 := Lib.hid (N2.out.call bb)
  have L3 := Lib.hid lb3
  have B3 := Lib.hid rb
  have S3 : Hid (g + 1 + 1 < v3.heap.size) := Nat.lt_of_lt_of_le S2x.out bb.size
  replace B2 := Lib.hid (row_below B2.out bb)
  clear C lb3 rb bb N2 S2x P2x
  obtain ⟨w3, P3x, N3, O3⟩ := M3.out.put 3 (⟨2, 44, 66, #[.pointer (some ⟨b3, 0, none⟩)]⟩ : OpT).val rfl
  replace P3x : (Instr.mapUpdate 55 (.map (some (g + 1 + 1))) (.int .i64 3) (.agg #[.int .i64 2, .func (.func 44) #[] #[], .func (.func 66) #[] #[.pointer (some ⟨b3, 0, none⟩)]])).run Try.prog v3 = .ok () w3 := P3x
  have S3x : Hid (g + 1 + 1 < w3.heap.size) := lt_of_row (O3.out _ _ L3.out B3.out) L3.out
  replace B2 := Lib.hid (O3.out _ _ L2.out B2.out)
  replace B3 := Lib.hid (O3.out _ _ L3.out B3.out)
  clear O3 M3 S3
  have C := Lib.hid (reckoned_ex 48 w3 (g + 1 + 1) S3x.out)
  go_wp2_with fail
  refine C.out.mono ?_
  rintro e v4 ⟨b4, rfl, lb4, rb, bb⟩
  have M4 := Lib.hid (N3.out.call bb)
  have L4 := Lib.hid lb4
  have B4 := Lib.hid rb
  have S4 : Hid (g + 1 + 1 < v4.heap.size) := Nat.lt_of_lt_of_le S3x.out bb.size
  replace B2 := Lib.hid (row_below B2.out bb)
  replace B3 := Lib.hid (row_below B3.out bb)
  clear C lb4 rb bb N3 S3x P3x
  obtain ⟨w4, P4x, N4, O4⟩ := M4.out.put 4 (⟨2, 44, 66, #[.pointer (some ⟨b4, 0, none⟩)]⟩ : OpT).val rfl
  replace P4x : (Instr.mapUpdate 55 (.map (some (g + 1 + 1))) (.int .i64 4) (.agg #[.int .i64 2, .func (.func 44) #[] #[], .func (.func 66) #[] #[.pointer (some ⟨b4, 0, none⟩)]])).run Try.prog v4 = .ok () w4 := P4x
  have S4x : Hid (g + 1 + 1 < w4.heap.size) := lt_of_row (O4.out _ _ L4.out B4.out) L4.out
  replace B2 := Lib.hid (O4.out _ _ L2.out B2.out)
  replace B3 := Lib.hid (O4.out _ _ L3.out B3.out)
  replace B4 := Lib.hid (O4.out _ _ L4.out B4.out)
  clear O4 M4 S4
  have C := Lib.hid (compared_ex 51 w4 (g + 1 + 1) S4x.out)
  go_wp2_with fail
  refine C.out.mono ?_
  rintro e v5 ⟨b5, rfl, lb5, rb, bb⟩
  have M5 := Lib.hid (N4.out.call bb)
  have L5 := Lib.hid lb5
  have B5 := Lib.hid rb
  have S5 : Hid (g + 1 + 1 < v5.heap.size) := Nat.lt_of_lt_of_le S4x.out bb.size
  replace B2 := Lib.hid (row_below B2.out bb)
  replace B3 := Lib.hid (row_below B3.out bb)
  replace B4 := Lib.hid (row_below B4.out bb)
  clear C lb5 rb bb N4 S4x P4x
  obtain ⟨w5, P5x, N5, O5⟩ := M5.out.put 5 (⟨2, 49, 68, #[.pointer (some ⟨b5, 0, none⟩)]⟩ : OpT).val rfl
  replace P5x : (Instr.mapUpdate 55 (.map (some (g + 1 + 1))) (.int .i64 5) (.agg #[.int .i64 2, .func (.func 49) #[] #[], .func (.func 68) #[] #[.pointer (some ⟨b5, 0, none⟩)]])).run Try.prog v5 = .ok () w5 := P5x
  have S5x : Hid (g + 1 + 1 < w5.heap.size) := lt_of_row (O5.out _ _ L5.out B5.out) L5.out
  replace B2 := Lib.hid (O5.out _ _ L2.out B2.out)
  replace B3 := Lib.hid (O5.out _ _ L3.out B3.out)
  replace B4 := Lib.hid (O5.out _ _ L4.out B4.out)
  replace B5 := Lib.hid (O5.out _ _ L5.out B5.out)
  clear O5 M5 S5
  have C := Lib.hid (compared_ex 52 w5 (g + 1 + 1) S5x.out)
  go_wp2_with fail
  refine C.out.mono ?_
  rintro e v6 ⟨b6, rfl, lb6, rb, bb⟩
  have M6 := Lib.hid (N5.out.call bb)
  have L6 := Lib.hid lb6
  have B6 := Lib.hid rb
  have S6 : Hid (g + 1 + 1 < v6.heap.size) := Nat.lt_of_lt_of_le S5x.out bb.size
  replace B2 := Lib.hid (row_below B2.out bb)
  replace B3 := Lib.hid (row_below B3.out bb)
  replace B4 := Lib.hid (row_below B4.out bb)
  replace B5 := Lib.hid (row_below B5.out bb)
  clear C lb6 rb bb N5 S5x P5x
  obtain ⟨w6, P6x, N6, O6⟩ := M6.out.put 6 (⟨2, 49, 68, #[.pointer (some ⟨b6, 0, none⟩)]⟩ : OpT).val rfl
  replace P6x : (Instr.mapUpdate 55 (.map (some (g + 1 + 1))) (.int .i64 6) (.agg #[.int .i64 2, .func (.func 49) #[] #[], .func (.func 68) #[] #[.pointer (some ⟨b6, 0, none⟩)]])).run Try.prog v6 = .ok () w6 := P6x
  have S6x : Hid (g + 1 + 1 < w6.heap.size) := lt_of_row (O6.out _ _ L6.out B6.out) L6.out
  replace B2 := Lib.hid (O6.out _ _ L2.out B2.out)
  replace B3 := Lib.hid (O6.out _ _ L3.out B3.out)
  replace B4 := Lib.hid (O6.out _ _ L4.out B4.out)
  replace B5 := Lib.hid (O6.out _ _ L5.out B5.out)
  replace B6 := Lib.hid (O6.out _ _ L6.out B6.out)
  clear O6 M6 S6
  obtain ⟨w7, P7x, N7, O7⟩ := N6.out.put 7 (⟨2, 44, 53, #[]⟩ : OpT).val rfl
  replace P7x : (Instr.mapUpdate 55 (.map (some (g + 1 + 1))) (.int .i64 7) (.agg #[.int .i64 2, .func (.func 44) #[] #[], .func (.func 53) #[] #[]])).run Try.prog w6 = .ok () w7 := P7x
  replace B2 := Lib.hid (O7.out _ _ L2.out B2.out)
  replace B3 := Lib.hid (O7.out _ _ L3.out B3.out)
  replace B4 := Lib.hid (O7.out _ _ L4.out B4.out)
  replace B5 := Lib.hid (O7.out _ _ L5.out B5.out)
  replace B6 := Lib.hid (O7.out _ _ L6.out B6.out)
  clear O7 N6
  obtain ⟨w8, P8x, N8, O8⟩ := N7.out.put 8 (⟨2, 44, 54, #[]⟩ : OpT).val rfl
  replace P8x : (Instr.mapUpdate 55 (.map (some (g + 1 + 1))) (.int .i64 8) (.agg #[.int .i64 2, .func (.func 44) #[] #[], .func (.func 54) #[] #[]])).run Try.prog w7 = .ok () w8 := P8x
  replace B2 := Lib.hid (O8.out _ _ L2.out B2.out)
  replace B3 := Lib.hid (O8.out _ _ L3.out B3.out)
  replace B4 := Lib.hid (O8.out _ _ L4.out B4.out)
  replace B5 := Lib.hid (O8.out _ _ L5.out B5.out)
  replace B6 := Lib.hid (O8.out _ _ L6.out B6.out)
  clear O8 N7
  obtain ⟨w9, P9x, N9, O9⟩ := N8.out.put 9 (⟨1, 44, 55, #[]⟩ : OpT).val rfl
  replace P9x : (Instr.mapUpdate 55 (.map (some (g + 1 + 1))) (.int .i64 9) (.agg #[.int .i64 1, .func (.func 44) #[] #[], .func (.func 55) #[] #[]])).run Try.prog w8 = .ok () w9 := P9x
  replace B2 := Lib.hid (O9.out _ _ L2.out B2.out)
  replace B3 := Lib.hid (O9.out _ _ L3.out B3.out)
  replace B4 := Lib.hid (O9.out _ _ L4.out B4.out)
  replace B5 := Lib.hid (O9.out _ _ L5.out B5.out)
  replace B6 := Lib.hid (O9.out _ _ L6.out B6.out)
  clear O9 N8
  obtain ⟨w10, P10x, N10, O10⟩ := N9.out.put 10 (⟨1, 56, 57, #[]⟩ : OpT).val rfl
  replace P10x : (Instr.mapUpdate 55 (.map (some (g + 1 + 1))) (.int .i64 10) (.agg #[.int .i64 1, .func (.func 56) #[] #[], .func (.func 57) #[] #[]])).run Try.prog w9 = .ok () w10 := P10x
  replace B2 := Lib.hid (O10.out _ _ L2.out B2.out)
  replace B3 := Lib.hid (O10.out _ _ L3.out B3.out)
  replace B4 := Lib.hid (O10.out _ _ L4.out B4.out)
  replace B5 := Lib.hid (O10.out _ _ L5.out B5.out)
  replace B6 := Lib.hid (O10.out _ _ L6.out B6.out)
  clear O10 N9
  have c0 : w10.cell? ⟨g, 0, none⟩ = some (.map none) := cell_row (hg.out ▸ N10.out.top) 0
  have c1 : w10.cell? ⟨g, 1, none⟩ = some (.map none) := cell_row (hg.out ▸ N10.out.top) 1
  have f0 : ∀ j, w10.frozen? ⟨g, j, none⟩ = false := frozen_row (hg.out ▸ N10.out.top)
  go_wp2_with fail
  have hT : w10.heap[g]? = some lang0Box := hg.out ▸ N10.out.top
  have hs2 : ((w10.setCell ⟨g, 0, none⟩ (.map (some (g + 1)))).setCell ⟨g, 1, none⟩ (.map (some (g + 1 + 1)))).heap[g]? = some (langBox (g + 1) (g + 1 + 1)) := by
    rw [set_row (set_row hT 0 _) 1 _]; rfl
  have ho : ∀ b o, g < b → w10.heap[b]? = some o → ((w10.setCell ⟨g, 0, none⟩ (.map (some (g + 1)))).setCell ⟨g, 1, none⟩ (.map (some (g + 1 + 1)))).heap[b]? = some o := fun b o hb h => by
    rw [Below.heap_setCell _ _ _ _ (show b ≠ (⟨g, 1, none⟩ : Addr).block by show b ≠ g; omega), Below.heap_setCell _ _ _ _ (show b ≠ (⟨g, 0, none⟩ : Addr).block by show b ≠ g; omega)]; exact h
  have hB : Below w.heap.size w ((w10.setCell ⟨g, 0, none⟩ (.map (some (g + 1)))).setCell ⟨g, 1, none⟩ (.map (some (g + 1 + 1)))) := (N10.out.bel.setCell (show w.heap.size ≤ g by rw [hg.out]; exact Nat.le_refl _) _).setCell (show w.heap.size ≤ g by rw [hg.out]; exact Nat.le_refl _) _
  have l2 := L2.out; have l3 := L3.out; have l4 := L4.out; have l5 := L5.out; have l6 := L6.out
  refine bodyPost_ret (v := langV (g + 1) (g + 1 + 1)) (results_cell_row rfl _ _ g 57 _ (0, 0) _ rfl hs2 Try.underlying57 rfl (by kernel_rfl)) rfl ?_
  refine ⟨g + 1, g + 1 + 1, rfl, lang_of (N10.out.m1.imp fun _ q => ho _ _ (by omega) q) (c2 := 9) (ho _ _ (by omega) N10.out.m2) (ho b2 _ (by omega) B2.out) (ho b3 _ (by omega) B3.out) (ho b4 _ (by omega) B4.out) (ho b5 _ (by omega) B5.out) (ho b6 _ (by omega) B6.out), hB⟩
end Go.Proofs.Ytkpkkkmokgmhfaa
