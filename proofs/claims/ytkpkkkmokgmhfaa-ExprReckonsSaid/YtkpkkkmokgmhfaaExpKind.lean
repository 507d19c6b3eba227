/- Layer 12: the kind of an expression: the code. -/
import Derived.Test.YtkpkkkmokgmhfaaExpAmiss
namespace Go.Proofs.Ytkpkkkmokgmhfaa
set_option maxRecDepth 100000
open Go.RowKit Go.MapKept

theorem at2_get {α : Type} {z : α} {l : List (α × Int)} {k : Nat} {x : α × Int} (h : l[k]? = some x) : at2 z l k = x.1 := by
  rw [at2, List.getD_eq_getElem?_getD, h]; rfl
theorem at2_none {α : Type} {z : α} {l : List (α × Int)} {k : Nat} (h : l.length ≤ k) : at2 z l k = z := by
  rw [at2, List.getD_eq_getElem?_getD, List.getElem?_eq_none h]; rfl
theorem errs_next {α : Type} {l : List (α × Int)} {k : Nat} {x : α × Int} (hx : l[k]? = some x) (ha : ∀ j y, j < k → l[j]? = some y → y.2 = 0) (hp : x.2 = 0) : ∀ j y, j < k + 1 → l[j]? = some y → y.2 = 0 := by
  intro j y hj hy
  by_cases h : j = k
  · subst h; rw [hx] at hy; cases hy; exact hp
  · exact ha j y (by omega) hy
theorem errs_none {α : Type} {l : List (α × Int)} {n : Nat} (hn : l.length = n) (ha : ∀ j y, j < n → l[j]? = some y → y.2 = 0) : err1 l = 0 := by
  rw [err1_zero]
  intro x hx
  obtain ⟨j, hj, rfl⟩ := List.getElem_of_mem hx
  exact ha j _ (by omega) (List.getElem?_eq_getElem hj)
theorem many_le (k : Int) : manyZ k ≤ 2 := by rw [manyZ]; split <;> omega
theorem form1_op {e : E6} (h : form1 e = true) (h0 : ¬ e.k = 0) (h1 : ¬ e.k = 1) : (2 ≤ e.k ∧ e.k ≤ 10) ∧ e.m = manyZ e.k := by
  rw [form1, if_neg h0, if_neg h1] at h
  split at h
  · rename_i h2
    simp only [Bool.and_eq_true, decide_eq_true_eq] at h
    exact ⟨h2, h.1⟩
  · cases h
theorem form1_col {e : E6} (h : form1 e = true) (h0 : e.k = 0) : 0 ≤ e.n := by
  rw [form1, if_pos h0] at h
  simp only [Bool.and_eq_true, decide_eq_true_eq] at h
  exact h.2.1

set_option maxHeartbeats 12800000 in
theorem kind_any (g1 g2 : Nat) (A : Option Addr) (n c : Nat) (ks : List Int) : ∀ (d : Nat) (e : E6) (w : World), Lang w g1 g2 → Rd w A n c (vals .i64 ks) → ReadsE w e → withinB d e = true → everyB form1 d e = true → everyB (colOk ks.length) d e = true →
    Calls Try.prog 34 #[langV g1 g2, e.agg, .slice A n c] w fun r w' => r = .returned (.tuple #[.int .i64 (kindN d ks e).1, .int .i64 (kindN d ks e).2]) ∧ Below w.heap.size w w'
  | 0, e, w, _, _, _, hd, _, _ => by cases hd
  | d + 1, e, w, hl, hks, h, hd, hfm, hco => by
    obtain ⟨d', hd', hkid⟩ := within_of hd
    obtain rfl : d = d' := by omega
    obtain ⟨hf1, hfk⟩ := every_of hfm
    obtain ⟨hc1, hck⟩ := every_of hco
    have IH : Hid (∀ x W, Below w.heap.size w W → x ∈ e.of → Calls Try.prog 34 #[langV g1 g2, .agg #[.int .i64 x.k, .int .i64 x.n, .int .i64 x.v.k, .int .i64 x.v.n, .string x.v.s, .slice x.a x.m x.c], .slice A n c] W fun r w' => r = .returned (.tuple #[.int .i64 (kindN d ks x).1, .int .i64 (kindN d ks x).2]) ∧ Below W.heap.size W w') := fun x W hW hx =>
      kind_any g1 g2 A n c ks d x W (hl.below hW) (hks.below hW) ((h.kid x hx).keep hW) (hkid x hx) (hfk x hx) (hck x hx)
    obtain ⟨ek, en, ev, ea, em, ec, eo⟩ := e
    have HR := Lib.hid h
    have HL : Hid (eo.length = em) := h.len
    have hle : em ≤ 9223372036854775807 := h.le
    have HLG := Lib.hid hl
    have hlk : ks.length = n := by simpa using hks.len
    have HKS := Lib.hid hks
    obtain ⟨r, hr⟩ : ∃ r, Hid (kindN (d + 1) ks (⟨ek, en, ev, ea, em, ec, eo⟩ : E6) = r) := ⟨_, rfl⟩
    rw [hr.out]
    dsimp only at hf1 hc1 hkid hfk hck IH
    clear hd hd' h hl hfm hco hkid hfk hck hks
    obtain ⟨w1, hw1⟩ : ∃ w1, w1 = ((w.alloc (langBox g1 g2)).alloc (exprBox (⟨ek, en, ev, ea, em, ec, eo⟩ : E6))) := ⟨_, rfl⟩
    have HW := Lib.hid hw1
    have R0 : Hid (w1.heap[w.heap.size]? = some (langBox g1 g2)) := by rw [hw1]; exact old_row _ (new_row _ _ rfl)
    have R1 : Hid (w1.heap[w.heap.size + 1]? = some (exprBox (⟨ek, en, ev, ea, em, ec, eo⟩ : E6))) := by rw [hw1]; exact new_row _ _ (by simp only [World.size_alloc])
    have HB : Hid (Below w.heap.size w w1) := by rw [hw1]; exact below_new (below_new (Below.refl _ _) _) _
    have SZ : Hid (w1.heap.size = w.heap.size + 1 + 1) := by show _ = _; rw [hw1]; simp only [World.size_alloc]
    obtain ⟨p0_0, p0_1⟩ := lang_row R0.out
    obtain ⟨p1_0, p1_1, p1_2, p1_3, p1_4, p1_5⟩ := expr_row R1.out
    clear hw1
    dsimp only at p1_0 p1_1 p1_2 p1_3 p1_4 p1_5
    by_cases h0 : ek = 0
    · have hn0 : 0 ≤ en := form1_col hf1 h0
      have hn1 : en < ks.length := by have := hc1; simp only [colOk, h0, decide_true, Bool.not_true, Bool.false_or, decide_eq_true_eq] at this; exact this
      have hr2 : Hid (r = (ks.getD en.toNat 0, 0)) := by show _ = _; rw [← hr.out, kindN, if_pos h0]
      subst h0
      have LK : (Instr.lookup 54 (.map (some g1)) (.int .i64 0) true).run Try.prog w1 = .ok (.tuple #[.agg #[.func (.func 38) #[] #[], .func (.func 39) #[] #[], .func (.func 40) #[] #[]], .bool true]) w1 := HLG.out.leaf 0 w1 HB.out
      obtain ⟨w2, hw2⟩ : ∃ w2, w2 = w1.alloc (.cells #[.func (.func 38) #[] #[], .func (.func 39) #[] #[], .func (.func 40) #[] #[]] 67) := ⟨_, rfl⟩
      have HW2 := Lib.hid hw2
      have B2 : Hid (Below w1.heap.size w1 w2) := by rw [hw2]; exact below_new (Below.refl _ _) _
      have HB2 := Lib.hid (below_then HB.out B2.out)
      have RL : Hid (w2.heap[w1.heap.size]? = some (.cells #[.func (.func 38) #[] #[], .func (.func 39) #[] #[], .func (.func 40) #[] #[]] 67)) := by rw [hw2]; exact heap_alloc_new _ _
      have C : Hid (Calls Try.prog 39 #[.agg #[.int .i64 0, .int .i64 en, .int .i64 ev.k, .int .i64 ev.n, .string ev.s, .slice ea em ec], .slice A n c] w2 fun r w' => r = .returned (.int .i64 (ks.getD en.toNat 0)) ∧ Below w2.heap.size w2 w') := columnKind_any (⟨0, en, ev, ea, em, ec, eo⟩ : E6) A n c ks w2 (HKS.out.below HB2.out) hn0 hn1
      generalize ks.getD en.toNat 0 = z at hr2 C
      have eg := Try.eg_ck
      unfold EntersF at eg
      clear hw2 hr hf1 hc1 hn0 hn1
      go_enter Try.func34, Try.ntmps34
      go_upto_region 1 with fail
      rw [show ((w.alloc (langBox g1 g2)).alloc (exprBox (⟨0, en, ev, ea, em, ec, eo⟩ : E6))) = w1 from HW.out.symm]
      clear HW
      go_upto_region 2 with fail
      rw [show w1.alloc (.cells #[.func (.func 38) #[] #[], .func (.func 39) #[] #[], .func (.func 40) #[] #[]] 67) = w2 from HW2.out.symm]
      clear HW2 LK p1_0 p1_1 p1_2 p1_3 p1_4 p1_5 p0_0 p0_1
      obtain ⟨p1_0, p1_1, p1_2, p1_3, p1_4, p1_5⟩ := expr_row (row_below R1.out B2.out)
      dsimp only at p1_0 p1_1 p1_2 p1_3 p1_4 p1_5
      generalize w1.heap.size = gl at RL ⊢
      have l1 : w2.cell? ⟨gl, 1, none⟩ = some (.func (.func 39) #[] #[]) := cell_row RL.out 1
      go_wp2_with fail
      refine C.out.mono ?_
      rintro r3 w3 ⟨rfl, b3⟩
      have HB3 := Lib.hid (below_then HB2.out b3)
      clear b3 C
      go_wp2_with fail
      go_ret2
      exact ⟨by rw [hr2.out]; rfl, HB3.out⟩
    by_cases h1 : ek = 1
    · have hr2 : Hid (r = (ev.k, 0)) := by show _ = _; rw [← hr.out, kindN, if_neg h0, if_pos h1]
      subst h1
      have LK : (Instr.lookup 54 (.map (some g1)) (.int .i64 1) true).run Try.prog w1 = .ok (.tuple #[.agg #[.func (.func 41) #[] #[], .func (.func 42) #[] #[], .func (.func 43) #[] #[]], .bool true]) w1 := HLG.out.leaf 1 w1 HB.out
      obtain ⟨w2, hw2⟩ : ∃ w2, w2 = w1.alloc (.cells #[.func (.func 41) #[] #[], .func (.func 42) #[] #[], .func (.func 43) #[] #[]] 67) := ⟨_, rfl⟩
      have HW2 := Lib.hid hw2
      have B2 : Hid (Below w1.heap.size w1 w2) := by rw [hw2]; exact below_new (Below.refl _ _) _
      have HB2 := Lib.hid (below_then HB.out B2.out)
      have RL : Hid (w2.heap[w1.heap.size]? = some (.cells #[.func (.func 41) #[] #[], .func (.func 42) #[] #[], .func (.func 43) #[] #[]] 67)) := by rw [hw2]; exact heap_alloc_new _ _
      have C : Hid (Calls Try.prog 42 #[.agg #[.int .i64 1, .int .i64 en, .int .i64 ev.k, .int .i64 ev.n, .string ev.s, .slice ea em ec], .slice A n c] w2 fun r w' => r = .returned (.int .i64 (ev.k)) ∧ Below w2.heap.size w2 w') := literalKind_any (⟨1, en, ev, ea, em, ec, eo⟩ : E6) A n c w2
      have eg := Try.eg_lk
      unfold EntersF at eg
      clear hw2 hr hf1 hc1 h0
      go_enter Try.func34, Try.ntmps34
      go_upto_region 1 with fail
      rw [show ((w.alloc (langBox g1 g2)).alloc (exprBox (⟨1, en, ev, ea, em, ec, eo⟩ : E6))) = w1 from HW.out.symm]
      clear HW
      go_upto_region 2 with fail
      rw [show w1.alloc (.cells #[.func (.func 41) #[] #[], .func (.func 42) #[] #[], .func (.func 43) #[] #[]] 67) = w2 from HW2.out.symm]
      clear HW2 LK p1_0 p1_1 p1_2 p1_3 p1_4 p1_5 p0_0 p0_1
      obtain ⟨p1_0, p1_1, p1_2, p1_3, p1_4, p1_5⟩ := expr_row (row_below R1.out B2.out)
      dsimp only at p1_0 p1_1 p1_2 p1_3 p1_4 p1_5
      generalize w1.heap.size = gl at RL ⊢
      have l1 : w2.cell? ⟨gl, 1, none⟩ = some (.func (.func 42) #[] #[]) := cell_row RL.out 1
      go_wp2_with fail
      refine C.out.mono ?_
      rintro r3 w3 ⟨rfl, b3⟩
      have HB3 := Lib.hid (below_then HB2.out b3)
      clear b3 C
      go_wp2_with fail
      go_ret2
      exact ⟨by rw [hr2.out]; rfl, HB3.out⟩
    obtain ⟨h2, hmz⟩ := form1_op hf1 h0 h1
    dsimp only at h2 hmz
    obtain ⟨t, tt, _, LO⟩ := HLG.out.op h2
    obtain ⟨tm, ta, ts, tcb⟩ := t
    have hem2 : em ≤ 2 := by rw [hmz]; exact many_le ek
    obtain ⟨xs, hxs⟩ : ∃ xs, Hid (eo.map (kindN d ks) = xs) := ⟨_, rfl⟩
    have hxl : Hid (xs.length = em) := by show _ = _; rw [← hxs.out, List.length_map]; exact HL.out
    have hr2 : Hid (r = if err1 xs = 0 then (if gets3 ek (at2 0 xs 0) (at2 0 xs 1) = true then (1, 0) else (0, 6)) else (0, err1 xs)) := by show _ = _; rw [← hr.out, kindN, if_neg h0, if_neg h1]; dsimp only; rw [hxs.out]
    have LK : (Instr.lookup 54 (.map (some g1)) (.int .i64 ek) true).run Try.prog w1 = .ok (.tuple #[.agg #[.nilFunc, .nilFunc, .nilFunc], .bool false]) w1 := by
      have h := HLG.out.leaf ek w1 HB.out
      rwa [leafAt, if_neg h0, if_neg h1] at h
    obtain ⟨w2, hw2⟩ : ∃ w2, w2 = (w1.alloc (.cells #[.nilFunc, .nilFunc, .nilFunc] 67)).alloc (.cells #[.int .i64 0, .int .i64 0] 81) := ⟨_, rfl⟩
    have HW2 := Lib.hid hw2
    have B2 : Hid (Below w1.heap.size w1 w2) := by rw [hw2]; exact below_new (below_new (Below.refl _ _) _) _
    have HB2 := Lib.hid (below_then HB.out B2.out)
    have RG : Hid (w2.heap[w1.heap.size + 1]? = some (.cells #[.int .i64 0, .int .i64 0] 81)) := by rw [hw2]; exact new_row _ _ (by simp only [World.size_alloc])
    have RL2 := Lib.hid (row_below R0.out B2.out)
    have RE2 := Lib.hid (row_below R1.out B2.out)
    obtain ⟨gg, hg⟩ : ∃ gg, w1.heap.size + 1 = gg := ⟨_, rfl⟩
    have hgg : Hid (w.heap.size + 1 < gg) := by show _ < _; rw [← hg, SZ.out]; omega
    rw [hg] at RG
    replace hg := Lib.hid hg
    have FLD : ∀ W, (Instr.field 73 (.agg #[.int .i64 tm, .func (.func ta) #[] #[], .func (.func ts) #[] tcb]) 1).run Try.prog W = .ok (.func (.func ta) #[] #[]) W := fun W => by kernel_rfl
    have eg := tt.ea
    unfold EntersF at eg
    have TA : Hid (TellsAsk ta ek) := tt.ask
    have HLO := Lib.hid LO
    clear hw2 hr hf1 hc1 h0 h1 h2 hmz tt LO
    go_enter Try.func34, Try.ntmps34
    go_upto_region 1 with fail
    rw [show ((w.alloc (langBox g1 g2)).alloc (exprBox (⟨ek, en, ev, ea, em, ec, eo⟩ : E6))) = w1 from HW.out.symm]
    clear HW
    go_upto_region 5 with fail
    rw [show (w1.alloc (.cells #[.nilFunc, .nilFunc, .nilFunc] 67)).alloc (.cells #[.int .i64 0, .int .i64 0] 81) = w2 from HW2.out.symm]
    clear HW2 LK p1_0 p1_1 p1_2 p1_3 p1_4 p1_5 p0_0 p0_1
    obtain ⟨p1_0, p1_1, p1_2, p1_3, p1_4, p1_5⟩ := expr_row RE2.out
    dsimp only at p1_0 p1_1 p1_2 p1_3 p1_4 p1_5
    rw [hg.out]
    clear hg
    go_wp2_with fail
    clear p1_0 p1_1 p1_2 p1_3 p1_4 p1_5
    go_loopw [32] (fun i wr => ∃ (k : Nat) (x0 x1 : Int), k ≤ em ∧ i = .int .i64 k ∧ Hid (x0 = if 0 < k then at2 0 xs 0 else 0) ∧ Hid (x1 = if 1 < k then at2 0 xs 1 else 0) ∧ Hid (∀ j y, j < k → xs[j]? = some y → y.2 = 0) ∧ Hid (wr.heap[gg]? = some (.cells #[.int .i64 x0, .int .i64 x1] 81)) ∧ Hid (wr.heap[w.heap.size]? = some (langBox g1 g2)) ∧ Hid (wr.heap[w.heap.size + 1]? = some (exprBox (⟨ek, en, ev, ea, em, ec, eo⟩ : E6))) ∧ Hid (Below w.heap.size w wr)) (fun i _ => em - (intOf i).toNat)
    case atStart => exact ⟨0, 0, 0, Nat.zero_le _, rfl, rfl, rfl, (by show ∀ j y, _; intro j y h; exact absurd h (by omega)), RG, RL2, RE2, HB2⟩
    case round =>
      clear RG RL2 RE2 HB2
      obtain ⟨k, x0, x1, hk, rfl, hx0, hx1, hA, RG, RL2, RE2, HB⟩ := hrel
      by_cases hlt : k < em
      · obtain ⟨b, o, x, hab, hb, hx, hxr, hld⟩ := HR.out.at_ hlt
        dsimp only at hab hx
        subst hab
        obtain ⟨d0, d1, d2, d3, d4, d5⟩ := hld wr HB.out
        obtain ⟨w3, hw3⟩ : ∃ w3, w3 = wr.alloc (exprBox x) := ⟨_, rfl⟩
        have HW3 := Lib.hid hw3
        have B3 : Below wr.heap.size wr w3 := by rw [hw3]; exact below_new (Below.refl _ _) _
        have HB3 := Lib.hid (below_then HB.out B3)
        have RX : Hid (w3.heap[wr.heap.size]? = some (exprBox x)) := by rw [hw3]; exact heap_alloc_new _ _
        have RG3 := Lib.hid (row_below RG.out B3)
        have RL3 := Lib.hid (row_below RL2.out B3)
        have RE3 := Lib.hid (row_below RE2.out B3)
        obtain ⟨y, hy⟩ : ∃ y, Hid (kindN d ks x = y) := ⟨_, rfl⟩
        have hxk : Hid (xs[k]? = some y) := by show _ = _; rw [← hxs.out, List.getElem?_map, hx, ← hy.out]; rfl
        have C := Lib.hid (IH.out x w3 HB3.out (List.mem_of_getElem? hx))
        rw [hy.out] at C
        have y1 : (k : Int) < (em : Int) := by omega
        have y0 : (0 : Int) ≤ (k : Int) := by omega
        have y2 : (k : Int) < 2 := by omega
        clear hw3 B3 hb hx hxr hld
        go_upto_region 8 with fail
        rw [show wr.alloc (exprBox x) = w3 from HW3.out.symm]
        clear HW3 d0 d1 d2 d3 d4 d5
        generalize wr.heap.size = gx at RX ⊢
        obtain ⟨z0, z1, z2, z3, z4, z5⟩ := expr_row RX.out
        obtain ⟨l0, l1⟩ := lang_row RL3.out
        go_wp2_with fail
        refine C.out.mono ?_
        rintro r3 w4 ⟨rfl, b4⟩
        have HB4 := Lib.hid (below_then HB3.out b4)
        have RG4 := Lib.hid (row_below RG3.out b4)
        have RL4 := Lib.hid (row_below RL3.out b4)
        have RE4 := Lib.hid (row_below RE3.out b4)
        clear b4 z0 z1 z2 z3 z4 z5 l0 l1 C
        obtain ⟨yk, ye⟩ := y
        dsimp only
        by_cases hy0 : ye = 0
        · subst hy0
          have hA2 : Hid (∀ j y, j < k + 1 → xs[j]? = some y → y.2 = 0) := by show ∀ j y, _; exact errs_next hxk.out hA.out rfl
          have RG5 : Hid (∃ x0' x1' : Int, Hid (x0' = if 0 < k + 1 then at2 0 xs 0 else 0) ∧ Hid (x1' = if 1 < k + 1 then at2 0 xs 1 else 0) ∧ Hid ((w4.setCell ⟨gg, k, none⟩ (.int .i64 yk)).heap[gg]? = some (.cells #[.int .i64 x0', .int .i64 x1'] 81))) := by
            have h1 := set_row RG4.out k (.int .i64 yk)
            have h2 := at2_get (z := (0 : Int)) hxk.out
            rcases (show k = 0 ∨ k = 1 by omega) with h0 | h0
            · subst h0
              exact ⟨yk, x1, by show _ = _; rw [if_pos (by omega)]; exact h2.symm, by show _ = _; rw [hx1.out, if_neg (by omega), if_neg (by omega)], h1⟩
            · subst h0
              exact ⟨x0, yk, by show _ = _; rw [hx0.out, if_pos (by omega), if_pos (by omega)], by show _ = _; rw [if_pos (by omega)]; exact h2.symm, h1⟩
          have RL5 : Hid ((w4.setCell ⟨gg, k, none⟩ (.int .i64 yk)).heap[w.heap.size]? = some (langBox g1 g2)) := by
            show _ = _
            rw [Below.heap_setCell _ _ _ _ (by have := hgg.out; show w.heap.size ≠ gg; omega)]; exact RL4.out
          have RE5 : Hid ((w4.setCell ⟨gg, k, none⟩ (.int .i64 yk)).heap[w.heap.size + 1]? = some (exprBox ⟨ek, en, ev, some ⟨b, o, none⟩, em, ec, eo⟩)) := by
            show _ = _
            rw [Below.heap_setCell _ _ _ _ (by have := hgg.out; show w.heap.size + 1 ≠ gg; omega)]; exact RE4.out
          have HB5 : Hid (Below w.heap.size w (w4.setCell ⟨gg, k, none⟩ (.int .i64 yk))) := HB4.out.setCell (by have := hgg.out; show w.heap.size ≤ gg; omega) _
          obtain ⟨xk, fx⟩ : ∃ xk, w4.cell? ⟨gg, k, none⟩ = some xk := by
            rw [cell_row RG4.out k]
            rcases (show k = 0 ∨ k = 1 by omega) with h0 | h0
            · subst h0; exact ⟨_, rfl⟩
            · subst h0; exact ⟨_, rfl⟩
          have ff := frozen_row RG4.out k
          obtain ⟨x0', x1', hx0', hx1', RG6⟩ := RG5.out
          clear RG5 hx0 hx1 hy hxk RG RL2 RE2 RG3 RL3 RE3 RG4 RL4 RE4 RX HB HB3 HB4
          go_wp2_with fail
          exact ⟨⟨k + 1, x0', x1', by omega, by go_num, hx0', hx1', hA2, RG6, RL5, RE5, HB5⟩, by simp [intOf]; omega⟩
        · have he : Hid (err1 xs = ye) := by show _ = _; exact err1_at hxk.out hA.out hy0
          have hr3 : Hid (r = (0, ye)) := by show _ = _; rw [hr2.out, he.out, if_neg hy0]
          have q0 := beq_no hy0
          have q1 : (ye != 0) = true := by simp [bne, q0]
          clear hy0
          go_wp2_with fail
          go_ret2
          exact ⟨by rw [hr3.out]; rfl, HB4.out⟩
      · obtain rfl : k = em := by omega
        have y1 : ¬ (k : Int) < (k : Int) := by omega
        have he : Hid (err1 xs = 0) := by show _ = _; exact errs_none hxl.out hA.out
        have hz1 : Hid (x1 = at2 0 xs 1) := by
          show _ = _
          rw [hx1.out]
          split
          · rfl
          · rw [at2_none (by rw [hxl.out]; omega)]
        have hz0 : Hid (x0 = at2 0 xs 0) := by
          show _ = _
          rw [hx0.out]
          split
          · rfl
          · rw [at2_none (by rw [hxl.out]; omega)]
        have hr3 : Hid (r = if gets3 ek x0 x1 = true then (1, 0) else (0, 6)) := by show _ = _; rw [hr2.out, he.out, if_pos rfl, hz0.out, hz1.out]
        have C := Lib.hid (TA.out x0 x1 wr)
        obtain ⟨q, hq⟩ : ∃ q, Hid (gets3 ek x0 x1 = q) := ⟨_, rfl⟩
        rw [hq.out] at C
        rw [hq.out] at hr3
        have LO := HLO.out wr HB.out
        obtain ⟨l0, l1⟩ := lang_row RL2.out
        obtain ⟨z0, z1, z2, z3, z4, z5⟩ := expr_row RE2.out
        dsimp only at z0 z1 z2 z3 z4 z5
        have m0 : wr.cell? ⟨gg, 0, none⟩ = some (.int .i64 x0) := cell_row RG.out 0
        have m1 : wr.cell? ⟨gg, 1, none⟩ = some (.int .i64 x1) := cell_row RG.out 1
        clear hq hz0 hz1 hx0 hx1 hr2 he
        go_wp2_with fail
        refine C.out.mono ?_
        rintro r3 w4 ⟨rfl, b4⟩
        have HB4 := Lib.hid (below_then HB.out b4)
        clear b4 C l0 l1 z0 z1 z2 z3 z4 z5 m0 m1 LO
        cases q with
        | true =>
          go_wp2_with fail
          go_ret2
          exact ⟨by rw [hr3.out]; rfl, HB4.out⟩
        | false =>
          go_wp2_with fail
          go_ret2
          exact ⟨by rw [hr3.out]; rfl, HB4.out⟩
end Go.Proofs.Ytkpkkkmokgmhfaa
