/- Layer 12: what an expression says of a row: the code. -/
import Derived.Test.YtkpkkkmokgmhfaaExpKind
namespace Go.Proofs.Ytkpkkkmokgmhfaa
set_option maxRecDepth 100000
open Go.RowKit Go.MapKept

set_option maxHeartbeats 25600000 in
theorem says_any (g1 g2 : Nat) (A : Option Addr) (n c : Nat) (row : List V3) (hm : ∀ v ∈ row, mayV v = true) : ∀ (d : Nat) (e : E6) (w : World), Lang w g1 g2 → RdV w A n c row → ReadsE w e → withinB d e = true → everyB form1 d e = true →
    Calls Try.prog 29 #[langV g1 g2, e.agg, .slice A n c] w fun r w' => r = .returned (.tuple #[(saysN d row e).1.agg, .int .i64 (saysN d row e).2]) ∧ Below w.heap.size w w'
  | 0, e, w, _, _, _, hd, _ => by cases hd
  | d + 1, e, w, hl, hks, h, hd, hfm => by
    obtain ⟨d', hd', hkid⟩ := within_of hd
    obtain rfl : d = d' := by omega
    obtain ⟨hf1, hfk⟩ := every_of hfm
    have IH : Hid (∀ x W, Below w.heap.size w W → x ∈ e.of → Calls Try.prog 29 #[langV g1 g2, .agg #[.int .i64 x.k, .int .i64 x.n, .int .i64 x.v.k, .int .i64 x.v.n, .string x.v.s, .slice x.a x.m x.c], .slice A n c] W fun r w' => r = .returned (.tuple #[(saysN d row x).1.agg, .int .i64 (saysN d row x).2]) ∧ Below W.heap.size W w') := fun x W hW hx =>
      says_any g1 g2 A n c row hm d x W (hl.below hW) (hks.below hW) ((h.kid x hx).keep hW) (hkid x hx) (hfk x hx)
    obtain ⟨ek, en, ev, ea, em, ec, eo⟩ := e
    have HR := Lib.hid h
    have HL : Hid (eo.length = em) := h.len
    have hle : em ≤ 9223372036854775807 := h.le
    have HLG := Lib.hid hl
    have hlk : row.length = n := hks.len
    have HKS := Lib.hid hks
    have HM : Hid (∀ x ∈ eo, mayV (saysN d row x).1 = true) := by show ∀ x ∈ eo, _; exact fun x hx => says_may d row x hm (hfk x hx)
    obtain ⟨r, hr⟩ : ∃ r, Hid (saysN (d + 1) row (⟨ek, en, ev, ea, em, ec, eo⟩ : E6) = r) := ⟨_, rfl⟩
    rw [hr.out]
    dsimp only at hf1 hkid hfk IH
    clear hd hd' h hl hfm hkid hfk hks
    obtain ⟨w1, hw1⟩ : ∃ w1, w1 = (((w.alloc (langBox g1 g2)).alloc (exprBox (⟨ek, en, ev, ea, em, ec, eo⟩ : E6))).alloc (valBox v0)) := ⟨_, rfl⟩
    have HW := Lib.hid hw1
    have R0 : Hid (w1.heap[w.heap.size]? = some (langBox g1 g2)) := by rw [hw1]; exact old_row _ (old_row _ (new_row _ _ rfl))
    have R1 : Hid (w1.heap[w.heap.size + 1]? = some (exprBox (⟨ek, en, ev, ea, em, ec, eo⟩ : E6))) := by rw [hw1]; exact old_row _ (new_row _ _ (by simp only [World.size_alloc]))
    have R2 : Hid (w1.heap[w.heap.size + 1 + 1]? = some (valBox v0)) := by rw [hw1]; exact new_row _ _ (by simp only [World.size_alloc])
    have HB : Hid (Below w.heap.size w w1) := by rw [hw1]; exact below_new (below_new (below_new (Below.refl _ _) _) _) _
    have SZ : Hid (w1.heap.size = w.heap.size + 1 + 1 + 1) := by show _ = _; rw [hw1]; simp only [World.size_alloc]
    obtain ⟨p0_0, p0_1⟩ := lang_row R0.out
    obtain ⟨p1_0, p1_1, p1_2, p1_3, p1_4, p1_5⟩ := expr_row R1.out
    obtain ⟨p2_0, p2_1, p2_2⟩ := valB_row R2.out
    clear hw1
    dsimp only at p1_0 p1_1 p1_2 p1_3 p1_4 p1_5
    by_cases h0 : ek = 0
    · have hn0 : 0 ≤ en := form1_col hf1 h0
      have hr2 : Hid (r = colSays (⟨ek, en, ev, ea, em, ec, eo⟩ : E6) row) := by show _ = _; rw [← hr.out, saysN, if_pos h0, colSays]
      subst h0
      have C : Hid (∀ W, Below w.heap.size w W → Calls Try.prog 40 #[.agg #[.int .i64 0, .int .i64 en, .int .i64 ev.k, .int .i64 ev.n, .string ev.s, .slice ea em ec], .slice A n c] W fun r' w' => r' = .returned (.tuple #[r.1.agg, .int .i64 r.2]) ∧ Below W.heap.size W w') := fun W hW => by rw [hr2.out]; exact columnSays_any (⟨0, en, ev, ea, em, ec, eo⟩ : E6) A n c row W (HKS.out.below hW) hn0
      have LK : (Instr.lookup 54 (.map (some g1)) (.int .i64 0) true).run Try.prog w1 = .ok (.tuple #[.agg #[.func (.func 38) #[] #[], .func (.func 39) #[] #[], .func (.func 40) #[] #[]], .bool true]) w1 := HLG.out.leaf 0 w1 HB.out
      obtain ⟨w2, hw2⟩ : ∃ w2, w2 = w1.alloc (.cells #[.func (.func 38) #[] #[], .func (.func 39) #[] #[], .func (.func 40) #[] #[]] 67) := ⟨_, rfl⟩
      have HW2 := Lib.hid hw2
      have B2 : Hid (Below w1.heap.size w1 w2) := by rw [hw2]; exact below_new (Below.refl _ _) _
      have HB2 := Lib.hid (below_then HB.out B2.out)
      have RL : Hid (w2.heap[w1.heap.size]? = some (.cells #[.func (.func 38) #[] #[], .func (.func 39) #[] #[], .func (.func 40) #[] #[]] 67)) := by rw [hw2]; exact heap_alloc_new _ _
      obtain ⟨rv, re⟩ := r
      have eg := Try.eg_cs
      unfold EntersF at eg
      dsimp only at C
      clear hw2 hr hr2 hf1 hn0
      go_enter Try.func29, Try.ntmps29
      go_upto_region 1 with fail
      rw [show (((w.alloc (langBox g1 g2)).alloc (exprBox (⟨0, en, ev, ea, em, ec, eo⟩ : E6))).alloc (valBox v0)) = w1 from HW.out.symm]
      clear HW
      go_upto_region 2 with fail
      rw [show w1.alloc (.cells #[.func (.func 38) #[] #[], .func (.func 39) #[] #[], .func (.func 40) #[] #[]] 67) = w2 from HW2.out.symm]
      clear HW2 LK p1_0 p1_1 p1_2 p1_3 p1_4 p1_5 p0_0 p0_1 p2_0 p2_1 p2_2
      obtain ⟨p1_0, p1_1, p1_2, p1_3, p1_4, p1_5⟩ := expr_row (row_below R1.out B2.out)
      dsimp only at p1_0 p1_1 p1_2 p1_3 p1_4 p1_5
      generalize w1.heap.size = gl at RL ⊢
      have l1 : w2.cell? ⟨gl, 2, none⟩ = some (.func (.func 40) #[] #[]) := cell_row RL.out 2
      have RZ2 := Lib.hid (row_below R2.out B2.out)
      go_wp2_with fail
      refine (C.out _ HB2.out).mono ?_
      rintro r3 w3 ⟨rfl, b3⟩
      have HB3 := Lib.hid (below_then HB2.out b3)
      have RZ3 := Lib.hid (row_below RZ2.out b3)
      obtain ⟨z0, z1, z2⟩ := valB_row RZ3.out
      have f3 := frozen_row RZ3.out
      clear b3 C p1_0 p1_1 p1_2 p1_3 p1_4 p1_5 l1
      go_wp2_with fail
      refine bodyPost_ret (v := .tuple #[(rv).agg, .int .i64 re]) (results_row_tmp rfl _ _ (w.heap.size + 1 + 1) 23 _ (0, 0) _ rfl (set3 RZ3.out) Try.underlying23 rfl (by kernel_rfl) rfl) rfl ?_
      exact ⟨rfl, below_set3 HB3.out (by omega)⟩
    by_cases h1 : ek = 1
    · have hr2 : Hid (r = (ev, 0)) := by show _ = _; rw [← hr.out, saysN, if_neg h0, if_pos h1]
      subst h1
      have C : Hid (∀ W, Below w.heap.size w W → Calls Try.prog 43 #[.agg #[.int .i64 1, .int .i64 en, .int .i64 ev.k, .int .i64 ev.n, .string ev.s, .slice ea em ec], .slice A n c] W fun r' w' => r' = .returned (.tuple #[r.1.agg, .int .i64 r.2]) ∧ Below W.heap.size W w') := fun W hW => by rw [hr2.out]; exact literalSays_any (⟨1, en, ev, ea, em, ec, eo⟩ : E6) A n c W
      have LK : (Instr.lookup 54 (.map (some g1)) (.int .i64 1) true).run Try.prog w1 = .ok (.tuple #[.agg #[.func (.func 41) #[] #[], .func (.func 42) #[] #[], .func (.func 43) #[] #[]], .bool true]) w1 := HLG.out.leaf 1 w1 HB.out
      obtain ⟨w2, hw2⟩ : ∃ w2, w2 = w1.alloc (.cells #[.func (.func 41) #[] #[], .func (.func 42) #[] #[], .func (.func 43) #[] #[]] 67) := ⟨_, rfl⟩
      have HW2 := Lib.hid hw2
      have B2 : Hid (Below w1.heap.size w1 w2) := by rw [hw2]; exact below_new (Below.refl _ _) _
      have HB2 := Lib.hid (below_then HB.out B2.out)
      have RL : Hid (w2.heap[w1.heap.size]? = some (.cells #[.func (.func 41) #[] #[], .func (.func 42) #[] #[], .func (.func 43) #[] #[]] 67)) := by rw [hw2]; exact heap_alloc_new _ _
      obtain ⟨rv, re⟩ := r
      have eg := Try.eg_ls
      unfold EntersF at eg
      dsimp only at C
      clear hw2 hr hr2 hf1 h0
      go_enter Try.func29, Try.ntmps29
      go_upto_region 1 with fail
      rw [show (((w.alloc (langBox g1 g2)).alloc (exprBox (⟨1, en, ev, ea, em, ec, eo⟩ : E6))).alloc (valBox v0)) = w1 from HW.out.symm]
      clear HW
      go_upto_region 2 with fail
      rw [show w1.alloc (.cells #[.func (.func 41) #[] #[], .func (.func 42) #[] #[], .func (.func 43) #[] #[]] 67) = w2 from HW2.out.symm]
      clear HW2 LK p1_0 p1_1 p1_2 p1_3 p1_4 p1_5 p0_0 p0_1 p2_0 p2_1 p2_2
      obtain ⟨p1_0, p1_1, p1_2, p1_3, p1_4, p1_5⟩ := expr_row (row_below R1.out B2.out)
      dsimp only at p1_0 p1_1 p1_2 p1_3 p1_4 p1_5
      generalize w1.heap.size = gl at RL ⊢
      have l1 : w2.cell? ⟨gl, 2, none⟩ = some (.func (.func 43) #[] #[]) := cell_row RL.out 2
      have RZ2 := Lib.hid (row_below R2.out B2.out)
      go_wp2_with fail
      refine (C.out _ HB2.out).mono ?_
      rintro r3 w3 ⟨rfl, b3⟩
      have HB3 := Lib.hid (below_then HB2.out b3)
      have RZ3 := Lib.hid (row_below RZ2.out b3)
      obtain ⟨z0, z1, z2⟩ := valB_row RZ3.out
      have f3 := frozen_row RZ3.out
      clear b3 C p1_0 p1_1 p1_2 p1_3 p1_4 p1_5 l1
      go_wp2_with fail
      refine bodyPost_ret (v := .tuple #[(rv).agg, .int .i64 re]) (results_row_tmp rfl _ _ (w.heap.size + 1 + 1) 23 _ (0, 0) _ rfl (set3 RZ3.out) Try.underlying23 rfl (by kernel_rfl) rfl) rfl ?_
      exact ⟨rfl, below_set3 HB3.out (by omega)⟩
    obtain ⟨h2, hmz⟩ := form1_op hf1 h0 h1
    dsimp only at h2 hmz
    obtain ⟨t, tt, _, LO⟩ := HLG.out.op h2
    obtain ⟨tm, ta, ts, tcb⟩ := t
    have hem2 : em ≤ 2 := by rw [hmz]; exact many_le ek
    obtain ⟨xs, hxs⟩ : ∃ xs, Hid (eo.map (saysN d row) = xs) := ⟨_, rfl⟩
    have hxl : Hid (xs.length = em) := by show _ = _; rw [← hxs.out, List.length_map]; exact HL.out
    have hxm : Hid (∀ j, mayV (at2 v0 xs j) = true) := by
      show ∀ j, _
      intro j
      rw [← hxs.out]
      simp only [at2, List.getD_eq_getElem?_getD, List.getElem?_map]
      cases hj : eo[j]? with
      | none => exact may_v0
      | some x => exact HM.out x (List.mem_of_getElem? hj)
    have hr2 : Hid (r = if err1 xs = 0 then (if gets3 ek (at2 v0 xs 0).k (at2 v0 xs 1).k = true then saysO ek (at2 v0 xs 0) (at2 v0 xs 1) else (v0, 6)) else (v0, err1 xs)) := by show _ = _; rw [← hr.out, saysN, if_neg h0, if_neg h1]; dsimp only; rw [hxs.out]
    have LK : (Instr.lookup 54 (.map (some g1)) (.int .i64 ek) true).run Try.prog w1 = .ok (.tuple #[.agg #[.nilFunc, .nilFunc, .nilFunc], .bool false]) w1 := by
      have h := HLG.out.leaf ek w1 HB.out
      rwa [leafAt, if_neg h0, if_neg h1] at h
    obtain ⟨w2, hw2⟩ : ∃ w2, w2 = (w1.alloc (.cells #[.nilFunc, .nilFunc, .nilFunc] 67)).alloc (.cells #[.int .i64 v0.k, .int .i64 v0.n, .string v0.s, .int .i64 v0.k, .int .i64 v0.n, .string v0.s] 78) := ⟨_, rfl⟩
    have HW2 := Lib.hid hw2
    have B2 : Hid (Below w1.heap.size w1 w2) := by rw [hw2]; exact below_new (below_new (Below.refl _ _) _) _
    have HB2 := Lib.hid (below_then HB.out B2.out)
    have RG : Hid (w2.heap[w1.heap.size + 1]? = some (.cells #[.int .i64 v0.k, .int .i64 v0.n, .string v0.s, .int .i64 v0.k, .int .i64 v0.n, .string v0.s] 78)) := by rw [hw2]; exact new_row _ _ (by simp only [World.size_alloc])
    have RL2 := Lib.hid (row_below R0.out B2.out)
    have RE2 := Lib.hid (row_below R1.out B2.out)
    have RZ2 := Lib.hid (row_below R2.out B2.out)
    obtain ⟨gg, hg⟩ : ∃ gg, w1.heap.size + 1 = gg := ⟨_, rfl⟩
    have hgg : Hid (w.heap.size + 1 + 1 < gg) := by show _ < _; rw [← hg, SZ.out]; omega
    rw [hg] at RG
    replace hg := Lib.hid hg
    have eg := tt.ea
    have es := tt.es
    unfold EntersF at eg es
    have TA : Hid (TellsAsk ta ek) := tt.ask
    have TS : Hid (TellsSay ts tcb ek w) := tt.say
    have HLO := Lib.hid LO
    clear hw2 hr hf1 h0 h1 h2 hmz tt LO HM
    go_enter Try.func29, Try.ntmps29
    go_upto_region 1 with fail
    rw [show (((w.alloc (langBox g1 g2)).alloc (exprBox (⟨ek, en, ev, ea, em, ec, eo⟩ : E6))).alloc (valBox v0)) = w1 from HW.out.symm]
    clear HW
    go_upto_region 5 with fail
    rw [show (w1.alloc (.cells #[.nilFunc, .nilFunc, .nilFunc] 67)).alloc (.cells #[.int .i64 v0.k, .int .i64 v0.n, .string v0.s, .int .i64 v0.k, .int .i64 v0.n, .string v0.s] 78) = w2 from HW2.out.symm]
    clear HW2 LK p1_0 p1_1 p1_2 p1_3 p1_4 p1_5 p0_0 p0_1 p2_0 p2_1 p2_2
    obtain ⟨p1_0, p1_1, p1_2, p1_3, p1_4, p1_5⟩ := expr_row RE2.out
    dsimp only at p1_0 p1_1 p1_2 p1_3 p1_4 p1_5
    rw [hg.out]
    clear hg
    go_wp2_with fail
    clear p1_0 p1_1 p1_2 p1_3 p1_4 p1_5
    go_loopw [35] (fun i wr => ∃ (k : Nat) (x0 x1 : V3), k ≤ em ∧ i = .int .i64 k ∧ Hid (x0 = if 0 < k then at2 v0 xs 0 else v0) ∧ Hid (x1 = if 1 < k then at2 v0 xs 1 else v0) ∧ Hid (∀ j y, j < k → xs[j]? = some y → y.2 = 0) ∧ Hid (wr.heap[gg]? = some (.cells #[.int .i64 x0.k, .int .i64 x0.n, .string x0.s, .int .i64 x1.k, .int .i64 x1.n, .string x1.s] 78)) ∧ Hid (wr.heap[w.heap.size]? = some (langBox g1 g2)) ∧ Hid (wr.heap[w.heap.size + 1]? = some (exprBox (⟨ek, en, ev, ea, em, ec, eo⟩ : E6))) ∧ Hid (wr.heap[w.heap.size + 1 + 1]? = some (valBox v0)) ∧ Hid (Below w.heap.size w wr)) (fun i _ => em - (intOf i).toNat)
    case atStart => exact ⟨0, v0, v0, Nat.zero_le _, rfl, rfl, rfl, (by show ∀ j y, _; intro j y h; exact absurd h (by omega)), RG, RL2, RE2, RZ2, HB2⟩
    case round =>
      clear RG RL2 RE2 RZ2 HB2
      obtain ⟨k, x0, x1, hk, rfl, hx0, hx1, hA, RG, RL2, RE2, RZ2, HB⟩ := hrel
      by_cases hlt : k < em
      · obtain ⟨b, o, x, hab, hb, hx, hxr, hld⟩ := HR.out.at_ hlt
        dsimp only at hab hx
        subst hab
        obtain ⟨d0, d1, d2, d3, d4, d5⟩ := hld wr HB.out
        obtain ⟨w3, hw3⟩ : ∃ w3, w3 = wr.alloc (exprBox x) := ⟨_, rfl⟩
        have HW3 := Lib.hid hw3
        have B3 : Below wr.heap.size wr w3 := by rw [hw3]; exact below_new (Below.refl _ _) _
        have HB3 := Lib.hid (below_then HB.out B3)
        have RX : Hid (w3.heap[wr.heap.size]? = some (exprBox x)) := by rw [hw3]; exact heap_alloc_new _ _
        have RG3 := Lib.hid (row_below RG.out B3)
        have RL3 := Lib.hid (row_below RL2.out B3)
        have RE3 := Lib.hid (row_below RE2.out B3)
        have RZ3 := Lib.hid (row_below RZ2.out B3)
        obtain ⟨y, hy⟩ : ∃ y, Hid (saysN d row x = y) := ⟨_, rfl⟩
        have hxk : Hid (xs[k]? = some y) := by show _ = _; rw [← hxs.out, List.getElem?_map, hx, ← hy.out]; rfl
        have C := Lib.hid (IH.out x w3 HB3.out (List.mem_of_getElem? hx))
        rw [hy.out] at C
        have y1 : (k : Int) < (em : Int) := by omega
        have y0 : (0 : Int) ≤ (k : Int) := by omega
        have y2 : (k : Int) < 2 := by omega
        clear hw3 B3 hb hx hxr hld
        go_upto_region 8 with fail
        rw [show wr.alloc (exprBox x) = w3 from HW3.out.symm]
        clear HW3 d0 d1 d2 d3 d4 d5
        generalize wr.heap.size = gx at RX ⊢
        obtain ⟨z0, z1, z2, z3, z4, z5⟩ := expr_row RX.out
        obtain ⟨l0, l1⟩ := lang_row RL3.out
        go_wp2_with fail
        refine C.out.mono ?_
        rintro r3 w4 ⟨rfl, b4⟩
        obtain ⟨yv, ye⟩ := y
        dsimp only
        obtain ⟨w5, hw5⟩ : ∃ w5, w5 = w4.alloc (valBox yv) := ⟨_, rfl⟩
        have HW5 := Lib.hid hw5
        have b45 : Below w4.heap.size w4 w5 := by rw [hw5]; exact below_new (Below.refl _ _) _
        have b5 := below_then b4 b45
        have RV : Hid (w5.heap[w4.heap.size]? = some (valBox yv)) := by rw [hw5]; exact heap_alloc_new _ _
        have HB4 := Lib.hid (below_then HB3.out b5)
        have RG4 := Lib.hid (row_below RG3.out b5)
        have RL4 := Lib.hid (row_below RL3.out b5)
        have RE4 := Lib.hid (row_below RE3.out b5)
        have RZ4 := Lib.hid (row_below RZ3.out b5)
        clear b4 b5 b45 hw5 z0 z1 z2 z3 z4 z5 l0 l1 C
        go_upto_region 9 with fail
        rw [show w4.alloc (valBox yv) = w5 from HW5.out.symm]
        clear HW5
        generalize w4.heap.size = gv at RV ⊢
        by_cases hy0 : ye = 0
        · subst hy0
          have hA2 : Hid (∀ j y, j < k + 1 → xs[j]? = some y → y.2 = 0) := by show ∀ j y, _; exact errs_next hxk.out hA.out rfl
          obtain ⟨w6, hw6⟩ : ∃ w6, w6 = ((w5.setCell ⟨gg, k * 3, none⟩ (.int .i64 yv.k)).setCell ⟨gg, k * 3 + 1, none⟩ (.int .i64 yv.n)).setCell ⟨gg, k * 3 + 2, none⟩ (.string yv.s) := ⟨_, rfl⟩
          have RG5 : Hid (∃ x0' x1' : V3, Hid (x0' = if 0 < k + 1 then at2 v0 xs 0 else v0) ∧ Hid (x1' = if 1 < k + 1 then at2 v0 xs 1 else v0) ∧ Hid (w6.heap[gg]? = some (.cells #[.int .i64 x0'.k, .int .i64 x0'.n, .string x0'.s, .int .i64 x1'.k, .int .i64 x1'.n, .string x1'.s] 78))) := by
            have h1 := set_row (set_row (set_row RG4.out (k * 3) (.int .i64 yv.k)) (k * 3 + 1) (.int .i64 yv.n)) (k * 3 + 2) (.string yv.s)
            rw [← hw6] at h1
            have h2 := at2_get (z := v0) hxk.out
            rcases (show k = 0 ∨ k = 1 by omega) with h0 | h0
            · subst h0
              exact ⟨yv, x1, by show _ = _; rw [if_pos (by omega)]; exact h2.symm, by show _ = _; rw [hx1.out, if_neg (by omega), if_neg (by omega)], h1⟩
            · subst h0
              exact ⟨x0, yv, by show _ = _; rw [hx0.out, if_pos (by omega), if_pos (by omega)], by show _ = _; rw [if_pos (by omega)]; exact h2.symm, h1⟩
          have ho : ∀ (q : Nat) (ob : Obj), q ≠ gg → w5.heap[q]? = some ob → w6.heap[q]? = some ob := fun q ob hq h => by
            rw [hw6, Below.heap_setCell _ _ _ _ (show q ≠ gg from hq), Below.heap_setCell _ _ _ _ (show q ≠ gg from hq), Below.heap_setCell _ _ _ _ (show q ≠ gg from hq)]; exact h
          have hgl := hgg.out
          have RL5 := Lib.hid (ho _ _ (by omega) RL4.out)
          have RE5 := Lib.hid (ho _ _ (by omega) RE4.out)
          have RZ5 := Lib.hid (ho _ _ (by omega) RZ4.out)
          have HB5 : Hid (Below w.heap.size w w6) := by rw [hw6]; exact ((HB4.out.setCell (show w.heap.size ≤ gg by omega) _).setCell (show w.heap.size ≤ gg by omega) _).setCell (show w.heap.size ≤ gg by omega) _
          obtain ⟨a0, a1, a2, fx0, fx1, fx2⟩ : ∃ a0 a1 a2, w5.cell? ⟨gg, k * 3, none⟩ = some a0 ∧ w5.cell? ⟨gg, k * 3 + 1, none⟩ = some a1 ∧ w5.cell? ⟨gg, k * 3 + 2, none⟩ = some a2 := by
            rw [cell_row RG4.out, cell_row RG4.out, cell_row RG4.out]
            rcases (show k = 0 ∨ k = 1 by omega) with h0 | h0
            · subst h0; exact ⟨_, _, _, rfl, rfl, rfl⟩
            · subst h0; exact ⟨_, _, _, rfl, rfl, rfl⟩
          have ff := frozen_row RG4.out
          obtain ⟨v0', v1', v2'⟩ := valB_row RV.out
          obtain ⟨x0', x1', hx0', hx1', RG6⟩ := RG5.out
          have HW6 := Lib.hid hw6
          clear hgl RG5 hx0 hx1 hy hxk RG RL2 RE2 RZ2 RG3 RL3 RE3 RZ3 RG4 RL4 RE4 RZ4 RX HB HB3 HB4 ho hw6
          go_wp2_with fail
          rw [show ((w5.setCell ⟨gg, k * 3, none⟩ (.int .i64 yv.k)).setCell ⟨gg, k * 3 + 1, none⟩ (.int .i64 yv.n)).setCell ⟨gg, k * 3 + 2, none⟩ (.string yv.s) = w6 from HW6.out.symm]
          exact ⟨⟨k + 1, x0', x1', by omega, by go_num, hx0', hx1', hA2, RG6, RL5, RE5, RZ5, HB5⟩, by simp [intOf]; omega⟩
        · have he : Hid (err1 xs = ye) := by show _ = _; exact err1_at hxk.out hA.out hy0
          have hr3 : Hid (r = (v0, ye)) := by show _ = _; rw [hr2.out, he.out, if_neg hy0]
          have q0 := beq_no hy0
          have q1 : (ye != 0) = true := by simp [bne, q0]
          clear hy0
          go_wp2_with fail
          refine (nothing_any _).mono ?_
          rintro r3 w6 ⟨rfl, b6⟩
          have HB6 := Lib.hid (below_then HB4.out b6)
          have RZ6 := Lib.hid (row_below RZ4.out b6)
          obtain ⟨z0, z1, z2⟩ := valB_row RZ6.out
          have f6 := frozen_row RZ6.out
          clear b6
          go_wp2_with fail
          refine bodyPost_ret (v := .tuple #[(v0).agg, .int .i64 ye]) (results_row_tmp rfl _ _ (w.heap.size + 1 + 1) 23 _ (0, 0) _ rfl (set3 RZ6.out) Try.underlying23 rfl (by kernel_rfl) rfl) rfl ?_
          exact ⟨by rw [hr3.out], below_set3 HB6.out (by omega)⟩
      · obtain rfl : k = em := by omega
        have y1 : ¬ (k : Int) < (k : Int) := by omega
        have he : Hid (err1 xs = 0) := by show _ = _; exact errs_none hxl.out hA.out
        have hz1 : Hid (x1 = at2 v0 xs 1) := by
          show _ = _
          rw [hx1.out]
          split
          · rfl
          · rw [at2_none (by rw [hxl.out]; omega)]
        have hz0 : Hid (x0 = at2 v0 xs 0) := by
          show _ = _
          rw [hx0.out]
          split
          · rfl
          · rw [at2_none (by rw [hxl.out]; omega)]
        have m0 := hxm.out 0
        have m1 := hxm.out 1
        rw [← hz0.out] at m0
        rw [← hz1.out] at m1
        obtain ⟨q, hq⟩ : ∃ q, Hid (gets3 ek x0.k x1.k = q) := ⟨_, rfl⟩
        have hr3 : Hid (r = if q = true then saysO ek x0 x1 else (v0, 6)) := by show _ = _; rw [hr2.out, he.out, if_pos rfl, ← hz0.out, ← hz1.out, hq.out]
        have C := Lib.hid (fun W => TA.out x0.k x1.k W)
        rw [hq.out] at C
        have D : Hid (q = true → ∀ W, Below w.heap.size w W → Calls Try.prog ts (#[.agg #[.int .i64 x0.k, .int .i64 x0.n, .string x0.s], .agg #[.int .i64 x1.k, .int .i64 x1.n, .string x1.s]] ++ tcb) W fun e W' => e = .returned (.tuple #[r.1.agg, .int .i64 r.2]) ∧ Below W.heap.size W W') := by
          show q = true → _
          intro h W hW
          rw [hr3.out, if_pos h]
          exact TS.out W hW x0 x1 m0 m1 (by rw [hq.out, h])
        obtain ⟨w3, hw3⟩ : ∃ w3, w3 = wr.alloc (.cells #[.int .i64 tm, .func (.func ta) #[] #[], .func (.func ts) #[] tcb] 73) := ⟨_, rfl⟩
        have HW3 := Lib.hid hw3
        have B3 : Below wr.heap.size wr w3 := by rw [hw3]; exact below_new (Below.refl _ _) _
        have HB3 := Lib.hid (below_then HB.out B3)
        have RO : Hid (w3.heap[wr.heap.size]? = some (.cells #[.int .i64 tm, .func (.func ta) #[] #[], .func (.func ts) #[] tcb] 73)) := by rw [hw3]; exact heap_alloc_new _ _
        have RG3 := Lib.hid (row_below RG.out B3)
        have RZ3 := Lib.hid (row_below RZ2.out B3)
        have LO := HLO.out wr HB.out
        obtain ⟨l0, l1⟩ := lang_row RL2.out
        obtain ⟨z0, z1, z2, z3, z4, z5⟩ := expr_row RE2.out
        dsimp only at z0 z1 z2 z3 z4 z5 LO
        clear hq hz0 hz1 hx0 hx1 hr2 he m0 m1 hw3 B3
        go_upto_region 14 with fail
        rw [show wr.alloc (.cells #[.int .i64 tm, .func (.func ta) #[] #[], .func (.func ts) #[] tcb] 73) = w3 from HW3.out.symm]
        clear HW3 l0 l1 z0 z1 z2 z3 z4 z5 LO
        generalize wr.heap.size = go_ at RO ⊢
        have o1 : w3.cell? ⟨go_, 1, none⟩ = some (.func (.func ta) #[] #[]) := cell_row RO.out 1
        have m0 : w3.cell? ⟨gg, 0, none⟩ = some (.int .i64 x0.k) := cell_row RG3.out 0
        have m3 : w3.cell? ⟨gg, 3, none⟩ = some (.int .i64 x1.k) := cell_row RG3.out 3
        go_wp2_with fail
        refine (C.out _).mono ?_
        rintro r3 w4 ⟨rfl, b4⟩
        have HB4 := Lib.hid (below_then HB3.out b4)
        have RO4 := Lib.hid (row_below RO.out b4)
        have RG4 := Lib.hid (row_below RG3.out b4)
        have RZ4 := Lib.hid (row_below RZ3.out b4)
        clear b4 C o1 m0 m3
        cases q with
        | true =>
          have o2 : w4.cell? ⟨go_, 2, none⟩ = some (.func (.func ts) #[] tcb) := cell_row RO4.out 2
          have m0 : w4.cell? ⟨gg, 0, none⟩ = some (.int .i64 x0.k) := cell_row RG4.out 0
          have m1 : w4.cell? ⟨gg, 1, none⟩ = some (.int .i64 x0.n) := cell_row RG4.out 1
          have m2 : w4.cell? ⟨gg, 2, none⟩ = some (.string x0.s) := cell_row RG4.out 2
          have m3 : w4.cell? ⟨gg, 3, none⟩ = some (.int .i64 x1.k) := cell_row RG4.out 3
          have m4 : w4.cell? ⟨gg, 4, none⟩ = some (.int .i64 x1.n) := cell_row RG4.out 4
          have m5 : w4.cell? ⟨gg, 5, none⟩ = some (.string x1.s) := cell_row RG4.out 5
          have D2 := Lib.hid (D.out rfl)
          obtain ⟨rv, re⟩ := r
          dsimp only at D2
          clear D
          go_wp2_with fail
          refine (D2.out _ HB4.out).mono ?_
          rintro r3 w5 ⟨rfl, b5⟩
          have HB5 := Lib.hid (below_then HB4.out b5)
          have RZ5 := Lib.hid (row_below RZ4.out b5)
          obtain ⟨z0, z1, z2⟩ := valB_row RZ5.out
          have f5 := frozen_row RZ5.out
          clear b5 o2 m0 m1 m2 m3 m4 m5 D2
          go_wp2_with fail
          refine bodyPost_ret (v := .tuple #[(rv).agg, .int .i64 re]) (results_row_tmp rfl _ _ (w.heap.size + 1 + 1) 23 _ (0, 0) _ rfl (set3 RZ5.out) Try.underlying23 rfl (by kernel_rfl) rfl) rfl ?_
          exact ⟨rfl, below_set3 HB5.out (by omega)⟩
        | false =>
          clear D
          go_wp2_with fail
          refine (nothing_any _).mono ?_
          rintro r3 w5 ⟨rfl, b5⟩
          have HB5 := Lib.hid (below_then HB4.out b5)
          have RZ5 := Lib.hid (row_below RZ4.out b5)
          obtain ⟨z0, z1, z2⟩ := valB_row RZ5.out
          have f5 := frozen_row RZ5.out
          clear b5
          go_wp2_with fail
          refine bodyPost_ret (v := .tuple #[(v0).agg, .int .i64 6]) (results_row_tmp rfl _ _ (w.heap.size + 1 + 1) 23 _ (0, 0) _ rfl (set3 RZ5.out) Try.underlying23 rfl (by kernel_rfl) rfl) rfl ?_
          exact ⟨by rw [hr3.out]; rfl, below_set3 HB5.out (by omega)⟩
end Go.Proofs.Ytkpkkkmokgmhfaa
