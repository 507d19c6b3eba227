/- Layer 12: what holds of all in an expression. -/
import Derived.Test.YtkpkkkmokgmhfaaExpForm1
namespace Go.Proofs.Ytkpkkkmokgmhfaa
set_option maxRecDepth 100000
open Go.RowKit Go.MapKept

abbrev kindsBox (A : Option Addr) (n c : Nat) : Obj := .cells #[.slice A n c] 39
set_option maxHeartbeats 6400000 in
theorem type1_any (e : E6) (gk : Nat) (A : Option Addr) (n c : Nat) (w : World) (hk : w.heap[gk]? = some (kindsBox A n c)) : Calls Try.prog 33 #[e.agg, .pointer (some ⟨gk, 0, none⟩)] w fun r w' => r = .returned (.bool (colOk n e)) ∧ Below w.heap.size w w' := by
  obtain ⟨w1, hw1⟩ : ∃ w1, w1 = (w.alloc (exprBox e)) := ⟨_, rfl⟩
  have HW := Lib.hid hw1
  have R0 : Hid (w1.heap[w.heap.size]? = some (exprBox e)) := by rw [hw1]; exact new_row _ _ rfl
  have HB : Hid (Below w.heap.size w w1) := by rw [hw1]; exact below_new (Below.refl _ _) _
  have SZ : Hid (w1.heap.size = w.heap.size + 1) := by show _ = _; rw [hw1]; simp only [World.size_alloc]
  obtain ⟨p0_0, p0_1, p0_2, p0_3, p0_4, p0_5⟩ := expr_row R0.out
  clear hw1
  have pk : w1.cell? ⟨gk, 0, none⟩ = some (.slice A n c) := cell_row (row_below hk HB.out) 0
  obtain ⟨r, hr⟩ : ∃ r, Hid (colOk n e = r) := ⟨_, rfl⟩
  rw [hr.out]
  clear hk
  rcases Decidable.em (e.k = 0) with h0 | h0
  · have hr2 : Hid (r = decide (e.n < n)) := by show _ = _; rw [← hr.out, colOk, decide_eq_true h0]; rfl
    have e0 : (e.k != 0) = false := by simp [bne, h0]
    clear hr h0
    by_cases h1 : e.n < (n : Int)
    · go_enter Try.func33, Try.ntmps33
      go_upto_region 1 with fail
      rw [show (w.alloc (exprBox e)) = w1 from HW.out.symm]
      clear HW
      go_wp2
      go_ret
      exact ⟨ret_bool (by rw [hr2.out]; simp [h1]), HB.out⟩
    · go_enter Try.func33, Try.ntmps33
      go_upto_region 1 with fail
      rw [show (w.alloc (exprBox e)) = w1 from HW.out.symm]
      clear HW
      go_wp2
      go_ret
      exact ⟨ret_bool (by rw [hr2.out]; simp [h1]), HB.out⟩
  · have hr2 : Hid (r = true) := by show _ = _; rw [← hr.out, colOk, decide_eq_false h0]; rfl
    have e0 : (e.k != 0) = true := by simp [bne, beq_no h0]
    clear hr h0
    go_enter Try.func33, Try.ntmps33
    go_upto_region 1 with fail
    rw [show (w.alloc (exprBox e)) = w1 from HW.out.symm]
    clear HW
    go_wp2
    go_ret
    exact ⟨ret_bool hr2.out.symm, HB.out⟩

set_option maxHeartbeats 12800000 in
theorem everyF_any (g1 g2 : Nat) : ∀ (d : Nat) (e : E6) (w : World), Lang w g1 g2 → ReadsE w e → withinB d e = true → Calls Try.prog 32 #[e.agg, .func (.func 59) #[langV g1 g2] #[]] w fun r w' => r = .returned (.bool (everyB form1 d e)) ∧ Below w.heap.size w w'
  | 0, e, w, _, _, hd => by cases hd
  | d + 1, e, w, hf, h, hd => by
    obtain ⟨d', hd', hkid⟩ := within_of hd
    obtain rfl : d = d' := by omega
    have IH : Hid (∀ x W, Lang W g1 g2 → ReadsE W x → withinB d x = true → Calls Try.prog 32 #[.agg #[.int .i64 x.k, .int .i64 x.n, .int .i64 x.v.k, .int .i64 x.v.n, .string x.v.s, .slice x.a x.m x.c], .func (.func 59) #[langV g1 g2] #[]] W fun r w' => r = .returned (.bool (everyB form1 d x)) ∧ Below W.heap.size W w') := fun x W hW hx hdx => everyF_any g1 g2 d x W hW hx hdx
    obtain ⟨r, hr⟩ : ∃ r, Hid ((e.of.all (everyB form1 d)) = r) := ⟨_, rfl⟩
    obtain ⟨t, ht⟩ : ∃ t, Hid (form1 e = t) := ⟨_, rfl⟩
    have hr0 : everyB form1 (d + 1) e = (t && r) := by rw [everyB, hr.out, ht.out]
    rw [hr0]
    have CF : Hid (∀ W, Lang W g1 g2 → Calls Try.prog 59 (#[langV g1 g2, e.agg]) W fun r w' => r = .returned (.bool t) ∧ Below W.heap.size W w') := fun W hW => by rw [← ht.out]; exact formed1_any g1 g2 e W hW
    obtain ⟨ek, en, ev, ea, em, ec, eo⟩ := e
    have HR := Lib.hid h
    have HL : Hid (eo.length = em) := h.len
    have hle : em ≤ 9223372036854775807 := h.le
    have HF := Lib.hid hf
    have HK := Lib.hid hkid
    have eg := Try.eg_lf
    unfold EntersF at eg
    clear hd hd' hr0 h ht hf hkid
    dsimp only at hr HK CF
    obtain ⟨w1, hw1⟩ : ∃ w1, w1 = (w.alloc (exprBox (⟨ek, en, ev, ea, em, ec, eo⟩ : E6))) := ⟨_, rfl⟩
    have HW := Lib.hid hw1
    have R0 : Hid (w1.heap[w.heap.size]? = some (exprBox (⟨ek, en, ev, ea, em, ec, eo⟩ : E6))) := by rw [hw1]; exact new_row _ _ rfl
    have HB : Hid (Below w.heap.size w w1) := by rw [hw1]; exact below_new (Below.refl _ _) _
    have SZ : Hid (w1.heap.size = w.heap.size + 1) := by show _ = _; rw [hw1]; simp only [World.size_alloc]
    obtain ⟨p0_0, p0_1, p0_2, p0_3, p0_4, p0_5⟩ := expr_row R0.out
    clear hw1
    dsimp only at p0_0 p0_1 p0_2 p0_3 p0_4 p0_5
    have HF1 := Lib.hid (HF.out.below HB.out)
    replace CF := Lib.hid (CF.out w1 HF1.out)
    go_enter Try.func32, Try.ntmps32
    go_upto_region 1 with fail
    rw [show (w.alloc (exprBox (⟨ek, en, ev, ea, em, ec, eo⟩ : E6))) = w1 from HW.out.symm]
    clear HW
    go_wp2_with fail
    refine CF.out.mono ?_
    rintro r3 w3 ⟨rfl, b3⟩
    have HB3 := Lib.hid (below_then HB.out b3)
    have R3 := Lib.hid (row_below R0.out b3)
    clear b3 p0_0 p0_1 p0_2 p0_3 p0_4 p0_5 CF HF1 R0 HB SZ eg
    cases t with
    | false =>
      go_wp2_with fail
      go_ret
      exact ⟨by simp, HB3.out⟩
    | true =>
    obtain ⟨p0_0, p0_1, p0_2, p0_3, p0_4, p0_5⟩ := expr_row R3.out
    dsimp only at p0_0 p0_1 p0_2 p0_3 p0_4 p0_5
    go_wp2_with fail
    go_loopw [14] (fun i wr => ∃ k : Nat, k ≤ em ∧ i = .int .i64 k ∧ Hid (∀ j y, j < k → eo[j]? = some y → everyB form1 d y = true) ∧ Hid (Below w.heap.size w wr)) (fun i _ => em - (intOf i).toNat)
    case atStart => exact ⟨0, Nat.zero_le _, rfl, (by show ∀ j y, _; intro j y h; exact absurd h (by omega)), HB3⟩
    case round =>
      clear HB3 p0_0 p0_1 p0_2 p0_3 p0_4 p0_5
      obtain ⟨k, hk, rfl, hA, HB⟩ := hrel
      by_cases hlt : k < em
      · obtain ⟨b, o, x, hab, hb, hx, hxr, hld⟩ := HR.out.at_ hlt
        dsimp only at hab hx
        subst hab
        obtain ⟨d0, d1, d2, d3, d4, d5⟩ := hld wr HB.out
        obtain ⟨w2, hw2⟩ : ∃ w2, w2 = wr.alloc (exprBox x) := ⟨_, rfl⟩
        have HW2 := Lib.hid hw2
        have B2 : Below wr.heap.size wr w2 := by rw [hw2]; exact below_new (Below.refl _ _) _
        have HB2 := Lib.hid (below_then HB.out B2)
        have RX : Hid (w2.heap[wr.heap.size]? = some (exprBox x)) := by rw [hw2]; exact heap_alloc_new _ _
        have HX := Lib.hid hx
        obtain ⟨s, hs⟩ : ∃ s, Hid (everyB form1 d x = s) := ⟨_, rfl⟩
        have C := Lib.hid (IH.out x w2 (HF.out.below HB2.out) (hxr.keep HB2.out) (HK.out x (List.mem_of_getElem? hx)))
        rw [hs.out] at C
        have y1 : (k : Int) < (em : Int) := by omega
        have y0 : (0 : Int) ≤ (k : Int) := by omega
        clear hw2 B2 hb hx hxr hld
        go_upto_region 6 with fail
        rw [show wr.alloc (exprBox x) = w2 from HW2.out.symm]
        clear HW2 d0 d1 d2 d3 d4 d5
        generalize wr.heap.size = gx at RX ⊢
        obtain ⟨z0, z1, z2, z3, z4, z5⟩ := expr_row RX.out
        go_wp2_with fail
        refine C.out.mono ?_
        rintro r3 w3 ⟨rfl, b3⟩
        have HB3 := Lib.hid (below_then HB2.out b3)
        clear b3 z0 z1 z2 z3 z4 z5 C
        cases s with
        | true =>
          have hA2 : Hid (∀ j y, j < k + 1 → eo[j]? = some y → everyB form1 d y = true) := by show ∀ j y, _; exact all_next HX.out hA.out hs.out
          go_wp2_with fail
          exact ⟨⟨k + 1, by omega, by go_num, hA2, HB3⟩, by simp [intOf]; omega⟩
        | false =>
          have hr2 : Hid (r = false) := by show _ = _; rw [← hr.out]; exact all_no HX.out hs.out
          go_wp2_with fail
          go_ret
          exact ⟨ret_bool (by rw [hr2.out]; rfl), HB3.out⟩
      · obtain rfl : k = em := by omega
        have y1 : ¬ (k : Int) < (k : Int) := by omega
        have hr2 : Hid (r = true) := by show _ = _; rw [← hr.out]; exact all_yes HL.out hA.out
        go_wp2_with fail
        go_ret
        exact ⟨ret_bool (by rw [hr2.out]), HB.out⟩

set_option maxHeartbeats 12800000 in
theorem everyC_any (gk : Nat) (A : Option Addr) (n c : Nat) : ∀ (d : Nat) (e : E6) (w : World), w.heap[gk]? = some (kindsBox A n c) → ReadsE w e → withinB d e = true → Calls Try.prog 32 #[e.agg, .func (.func 33) #[] #[.pointer (some ⟨gk, 0, none⟩)]] w fun r w' => r = .returned (.bool (everyB (colOk n) d e)) ∧ Below w.heap.size w w'
  | 0, e, w, _, _, hd => by cases hd
  | d + 1, e, w, hf, h, hd => by
    obtain ⟨d', hd', hkid⟩ := within_of hd
    obtain rfl : d = d' := by omega
    have IH : Hid (∀ x W, W.heap[gk]? = some (kindsBox A n c) → ReadsE W x → withinB d x = true → Calls Try.prog 32 #[.agg #[.int .i64 x.k, .int .i64 x.n, .int .i64 x.v.k, .int .i64 x.v.n, .string x.v.s, .slice x.a x.m x.c], .func (.func 33) #[] #[.pointer (some ⟨gk, 0, none⟩)]] W fun r w' => r = .returned (.bool (everyB (colOk n) d x)) ∧ Below W.heap.size W w') := fun x W hW hx hdx => everyC_any gk A n c d x W hW hx hdx
    obtain ⟨r, hr⟩ : ∃ r, Hid ((e.of.all (everyB (colOk n) d)) = r) := ⟨_, rfl⟩
    obtain ⟨t, ht⟩ : ∃ t, Hid ((colOk n) e = t) := ⟨_, rfl⟩
    have hr0 : everyB (colOk n) (d + 1) e = (t && r) := by rw [everyB, hr.out, ht.out]
    rw [hr0]
    have CF : Hid (∀ W, W.heap[gk]? = some (kindsBox A n c) → Calls Try.prog 33 (#[e.agg, .pointer (some ⟨gk, 0, none⟩)]) W fun r w' => r = .returned (.bool t) ∧ Below W.heap.size W w') := fun W hW => by rw [← ht.out]; exact type1_any e gk A n c W hW
    obtain ⟨ek, en, ev, ea, em, ec, eo⟩ := e
    have HR := Lib.hid h
    have HL : Hid (eo.length = em) := h.len
    have hle : em ≤ 9223372036854775807 := h.le
    have HF := Lib.hid hf
    have HK := Lib.hid hkid
    have eg := Try.eg_t1
    unfold EntersF at eg
    clear hd hd' hr0 h ht hf hkid
    dsimp only at hr HK CF
    obtain ⟨w1, hw1⟩ : ∃ w1, w1 = (w.alloc (exprBox (⟨ek, en, ev, ea, em, ec, eo⟩ : E6))) := ⟨_, rfl⟩
    have HW := Lib.hid hw1
    have R0 : Hid (w1.heap[w.heap.size]? = some (exprBox (⟨ek, en, ev, ea, em, ec, eo⟩ : E6))) := by rw [hw1]; exact new_row _ _ rfl
    have HB : Hid (Below w.heap.size w w1) := by rw [hw1]; exact below_new (Below.refl _ _) _
    have SZ : Hid (w1.heap.size = w.heap.size + 1) := by show _ = _; rw [hw1]; simp only [World.size_alloc]
    obtain ⟨p0_0, p0_1, p0_2, p0_3, p0_4, p0_5⟩ := expr_row R0.out
    clear hw1
    dsimp only at p0_0 p0_1 p0_2 p0_3 p0_4 p0_5
    have HF1 := Lib.hid (row_below HF.out HB.out)
    replace CF := Lib.hid (CF.out w1 HF1.out)
    go_enter Try.func32, Try.ntmps32
    go_upto_region 1 with fail
    rw [show (w.alloc (exprBox (⟨ek, en, ev, ea, em, ec, eo⟩ : E6))) = w1 from HW.out.symm]
    clear HW
    go_wp2_with fail
    refine CF.out.mono ?_
    rintro r3 w3 ⟨rfl, b3⟩
    have HB3 := Lib.hid (below_then HB.out b3)
    have R3 := Lib.hid (row_below R0.out b3)
    clear b3 p0_0 p0_1 p0_2 p0_3 p0_4 p0_5 CF HF1 R0 HB SZ eg
    cases t with
    | false =>
      go_wp2_with fail
      go_ret
      exact ⟨by simp, HB3.out⟩
    | true =>
    obtain ⟨p0_0, p0_1, p0_2, p0_3, p0_4, p0_5⟩ := expr_row R3.out
    dsimp only at p0_0 p0_1 p0_2 p0_3 p0_4 p0_5
    go_wp2_with fail
    go_loopw [14] (fun i wr => ∃ k : Nat, k ≤ em ∧ i = .int .i64 k ∧ Hid (∀ j y, j < k → eo[j]? = some y → everyB (colOk n) d y = true) ∧ Hid (Below w.heap.size w wr)) (fun i _ => em - (intOf i).toNat)
    case atStart => exact ⟨0, Nat.zero_le _, rfl, (by show ∀ j y, _; intro j y h; exact absurd h (by omega)), HB3⟩
    case round =>
      clear HB3 p0_0 p0_1 p0_2 p0_3 p0_4 p0_5
      obtain ⟨k, hk, rfl, hA, HB⟩ := hrel
      by_cases hlt : k < em
      · obtain ⟨b, o, x, hab, hb, hx, hxr, hld⟩ := HR.out.at_ hlt
        dsimp only at hab hx
        subst hab
        obtain ⟨d0, d1, d2, d3, d4, d5⟩ := hld wr HB.out
        obtain ⟨w2, hw2⟩ : ∃ w2, w2 = wr.alloc (exprBox x) := ⟨_, rfl⟩
        have HW2 := Lib.hid hw2
        have B2 : Below wr.heap.size wr w2 := by rw [hw2]; exact below_new (Below.refl _ _) _
        have HB2 := Lib.hid (below_then HB.out B2)
        have RX : Hid (w2.heap[wr.heap.size]? = some (exprBox x)) := by rw [hw2]; exact heap_alloc_new _ _
        have HX := Lib.hid hx
        obtain ⟨s, hs⟩ : ∃ s, Hid (everyB (colOk n) d x = s) := ⟨_, rfl⟩
        have C := Lib.hid (IH.out x w2 (row_below HF.out HB2.out) (hxr.keep HB2.out) (HK.out x (List.mem_of_getElem? hx)))
        rw [hs.out] at C
        have y1 : (k : Int) < (em : Int) := by omega
        have y0 : (0 : Int) ≤ (k : Int) := by omega
        clear hw2 B2 hb hx hxr hld
        go_upto_region 6 with fail
        rw [show wr.alloc (exprBox x) = w2 from HW2.out.symm]
        clear HW2 d0 d1 d2 d3 d4 d5
        generalize wr.heap.size = gx at RX ⊢
        obtain ⟨z0, z1, z2, z3, z4, z5⟩ := expr_row RX.out
        go_wp2_with fail
        refine C.out.mono ?_
        rintro r3 w3 ⟨rfl, b3⟩
        have HB3 := Lib.hid (below_then HB2.out b3)
        clear b3 z0 z1 z2 z3 z4 z5 C
        cases s with
        | true =>
          have hA2 : Hid (∀ j y, j < k + 1 → eo[j]? = some y → everyB (colOk n) d y = true) := by show ∀ j y, _; exact all_next HX.out hA.out hs.out
          go_wp2_with fail
          exact ⟨⟨k + 1, by omega, by go_num, hA2, HB3⟩, by simp [intOf]; omega⟩
        | false =>
          have hr2 : Hid (r = false) := by show _ = _; rw [← hr.out]; exact all_no HX.out hs.out
          go_wp2_with fail
          go_ret
          exact ⟨ret_bool (by rw [hr2.out]; rfl), HB3.out⟩
      · obtain rfl : k = em := by omega
        have y1 : ¬ (k : Int) < (k : Int) := by omega
        have hr2 : Hid (r = true) := by show _ = _; rw [← hr.out]; exact all_yes HL.out hA.out
        go_wp2_with fail
        go_ret
        exact ⟨ret_bool (by rw [hr2.out]), HB.out⟩
end Go.Proofs.Ytkpkkkmokgmhfaa
