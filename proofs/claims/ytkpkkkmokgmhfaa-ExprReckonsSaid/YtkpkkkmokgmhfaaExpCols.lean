/- Layer 12: which columns are there; how many parts an expression has: the document. -/
import Derived.Test.YtkpkkkmokgmhfaaExpDepth
namespace Go.Proofs.Ytkpkkkmokgmhfaa
set_option maxRecDepth 100000
open Go.RowKit Go.MapKept

set_option maxHeartbeats 12800000 in
theorem refColumns_any (n : Nat) : ∀ (d : Nat) (e : E6) (w : World), ReadsE w e → withinB d e = true → d ≤ 1000 → Calls Try.prog 35 #[e.agg, .int .i64 (n : Int), .int .i64 (d : Int)] w fun r w' => r = .returned (.bool (everyB (colOk n) d e)) ∧ Below w.heap.size w w'
  | 0, e, w, _, hd, _ => by cases hd
  | d + 1, e, w, h, hd, hdl => by
    obtain ⟨d', hd', hkid⟩ := within_of hd
    obtain rfl : d = d' := by omega
    have IH : Hid (∀ x W, ReadsE W x → withinB d x = true → Calls Try.prog 35 #[.agg #[.int .i64 x.k, .int .i64 x.n, .int .i64 x.v.k, .int .i64 x.v.n, .string x.v.s, .slice x.a x.m x.c], .int .i64 (n : Int), .int .i64 (d : Int)] W fun r w' => r = .returned (.bool (everyB (colOk n) d x)) ∧ Below W.heap.size W w') := fun x W hx hdx => refColumns_any n d x W hx hdx (by omega)
    obtain ⟨D, hD⟩ : ∃ D : Int, ((d + 1 : Nat) : Int) = D := ⟨_, rfl⟩
    have q1 : IntKind.i64.wrap (D - 1) = (d : Int) := by rw [wrap_is (by omega)]; omega
    have qd : 0 < D := by omega
    rw [hD]
    obtain ⟨t, ht⟩ : ∃ t, Hid (colOk n e = t) := ⟨_, rfl⟩
    obtain ⟨s, hs⟩ : ∃ s, Hid (e.of.all (everyB (colOk n) d) = s) := ⟨_, rfl⟩
    have hr0 : everyB (colOk n) (d + 1) e = (t && s) := by rw [everyB, ht.out, hs.out]
    rw [hr0]
    obtain ⟨ek, en, ev, ea, em, ec, eo⟩ := e
    have HR := Lib.hid h
    have HL : Hid (eo.length = em) := h.len
    have hle : em ≤ 9223372036854775807 := h.le
    have HK := Lib.hid hkid
    dsimp only at hs HK
    have ht2 : Hid (t = (!decide (ek = 0) || decide (en < (n : Int)))) := by show _ = _; rw [← ht.out, colOk]
    clear hD hd hd' hdl hr0 h hkid ht
    obtain ⟨w1, hw1⟩ : ∃ w1, w1 = (w.alloc (exprBox (⟨ek, en, ev, ea, em, ec, eo⟩ : E6))) := ⟨_, rfl⟩
    have HW := Lib.hid hw1
    have R0 : Hid (w1.heap[w.heap.size]? = some (exprBox (⟨ek, en, ev, ea, em, ec, eo⟩ : E6))) := by rw [hw1]; exact new_row _ _ rfl
    have HB : Hid (Below w.heap.size w w1) := by rw [hw1]; exact below_new (Below.refl _ _) _
    have SZ : Hid (w1.heap.size = w.heap.size + 1) := by show _ = _; rw [hw1]; simp only [World.size_alloc]
    obtain ⟨p0_0, p0_1, p0_2, p0_3, p0_4, p0_5⟩ := expr_row R0.out
    clear hw1
    dsimp only at p0_0 p0_1 p0_2 p0_3 p0_4 p0_5
    obtain ⟨z, hz⟩ : ∃ z : Bool, Hid (z = (decide (ek = 0) && !decide (en < (n : Int)))) := ⟨_, rfl⟩
    have HTZ : Hid (t = !z) := by show _ = _; rw [ht2.out, hz.out]; cases decide (ek = 0) <;> cases decide (en < (n : Int)) <;> rfl
    have fin : ∀ (P : Prop), (z = true → (ek == 0) = true → decide ((n : Int) ≤ en) = true → P) → (z = false → (ek == 0) = true → decide ((n : Int) ≤ en) = false → ¬ (n : Int) ≤ en → P) → (z = false → (ek == 0) = false → P) → P := by
      intro P h1 h2 h3
      by_cases h0 : ek = 0
      · by_cases hn : en < (n : Int)
        · exact h2 (by rw [hz.out, decide_eq_true h0, decide_eq_true hn]; rfl) (beq_yes h0) (decide_eq_false (by omega)) (by omega)
        · exact h1 (by rw [hz.out, decide_eq_true h0, decide_eq_false hn]; rfl) (beq_yes h0) (decide_eq_true (by omega))
      · exact h3 (by rw [hz.out, decide_eq_false h0]; rfl) (beq_no h0)
    clear hz ht2
    apply fin
    all_goals clear fin
    · intro z1 g0 g1
      subst z1
      have gle := of_decide_eq_true g1
      go_enter Try.func35, Try.ntmps35
      go_upto_region 1 with fail
      rw [show (w.alloc (exprBox (⟨ek, en, ev, ea, em, ec, eo⟩ : E6))) = w1 from HW.out.symm]
      clear HW
      go_wp2_with fail
      go_ret
      exact ⟨ret_bool (by rw [HTZ.out]; rfl), HB.out⟩
    · intro z1 g0 g1 g2
      subst z1
      go_enter Try.func35, Try.ntmps35
      go_upto_region 1 with fail
      rw [show (w.alloc (exprBox (⟨ek, en, ev, ea, em, ec, eo⟩ : E6))) = w1 from HW.out.symm]
      clear HW
      go_wp2_with fail
      clear p0_0 p0_1 p0_2 p0_3 p0_4 p0_5
      go_loopw [7] (fun i wr => ∃ k : Nat, k ≤ em ∧ i = .int .i64 k ∧ Hid (∀ j y, j < k → eo[j]? = some y → everyB (colOk n) d y = true) ∧ Hid (wr.heap[w.heap.size]? = some (exprBox (⟨ek, en, ev, ea, em, ec, eo⟩ : E6))) ∧ Hid (Below w.heap.size w wr)) (fun i _ => em - (intOf i).toNat)
      case atStart => exact ⟨0, Nat.zero_le _, rfl, (by show ∀ j y, _; intro j y h; exact absurd h (by omega)), R0, HB⟩
      case round =>
        clear HB R0
        obtain ⟨k, hk, rfl, hA, RE, HB⟩ := hrel
        by_cases hlt : k < em
        · obtain ⟨b, o, x, hab, hb, hx, hxr, hld⟩ := HR.out.at_ hlt
          dsimp only at hab hx
          subst hab
          obtain ⟨d0, d1, d2, d3, d4, d5⟩ := hld wr HB.out
          have HX := Lib.hid hx
          have HXR := Lib.hid (hxr.keep HB.out)
          have y1 : (k : Int) < (em : Int) := by omega
          have y0 : (0 : Int) ≤ (k : Int) := by omega
          obtain ⟨q0, q1_, q2, q3, q4, q5⟩ := expr_row RE.out
          dsimp only at q0 q1_ q2 q3 q4 q5
          clear hb hx hxr hld
          obtain ⟨y, hy⟩ : ∃ y, Hid (everyB (colOk n) d x = y) := ⟨_, rfl⟩
          have C := Lib.hid (IH.out x wr HXR.out (HK.out x (List.mem_of_getElem? HX.out)))
          rw [hy.out] at C
          go_wp2_with fail
          refine C.out.mono ?_
          rintro r3 w3 ⟨rfl, b3⟩
          have HB3 := Lib.hid (below_then HB.out b3)
          have RE3 := Lib.hid (row_below RE.out b3)
          clear b3 C d0 d1 d2 d3 d4 d5 q0 q1_ q2 q3 q4 q5
          cases y with
          | true =>
            have hA2 : Hid (∀ j y, j < k + 1 → eo[j]? = some y → everyB (colOk n) d y = true) := by show ∀ j y, _; exact all_next HX.out hA.out hy.out
            go_wp2_with fail
            exact ⟨⟨k + 1, by omega, by go_num, hA2, RE3, HB3⟩, by simp [intOf]; omega⟩
          | false =>
            have hr2 : Hid (s = false) := by show _ = _; rw [← hs.out]; exact all_no HX.out hy.out
            go_wp2_with fail
            go_ret
            exact ⟨ret_bool (by rw [hr2.out, Bool.and_false]), HB3.out⟩
        · obtain rfl : k = em := by omega
          have y1 : ¬ (k : Int) < (k : Int) := by omega
          obtain ⟨q0, q1_, q2, q3, q4, q5⟩ := expr_row RE.out
          dsimp only at q0 q1_ q2 q3 q4 q5
          have hr2 : Hid (s = true) := by show _ = _; rw [← hs.out]; exact all_yes HL.out hA.out
          go_wp2_with fail
          go_ret
          exact ⟨ret_bool (by rw [hr2.out, HTZ.out]; rfl), HB.out⟩
    · intro z1 g0
      subst z1
      go_enter Try.func35, Try.ntmps35
      go_upto_region 1 with fail
      rw [show (w.alloc (exprBox (⟨ek, en, ev, ea, em, ec, eo⟩ : E6))) = w1 from HW.out.symm]
      clear HW
      go_wp2_with fail
      clear p0_0 p0_1 p0_2 p0_3 p0_4 p0_5
      go_loopw [7] (fun i wr => ∃ k : Nat, k ≤ em ∧ i = .int .i64 k ∧ Hid (∀ j y, j < k → eo[j]? = some y → everyB (colOk n) d y = true) ∧ Hid (wr.heap[w.heap.size]? = some (exprBox (⟨ek, en, ev, ea, em, ec, eo⟩ : E6))) ∧ Hid (Below w.heap.size w wr)) (fun i _ => em - (intOf i).toNat)
      case atStart => exact ⟨0, Nat.zero_le _, rfl, (by show ∀ j y, _; intro j y h; exact absurd h (by omega)), R0, HB⟩
      case round =>
        clear HB R0
        obtain ⟨k, hk, rfl, hA, RE, HB⟩ := hrel
        by_cases hlt : k < em
        · obtain ⟨b, o, x, hab, hb, hx, hxr, hld⟩ := HR.out.at_ hlt
          dsimp only at hab hx
          subst hab
          obtain ⟨d0, d1, d2, d3, d4, d5⟩ := hld wr HB.out
          have HX := Lib.hid hx
          have HXR := Lib.hid (hxr.keep HB.out)
          have y1 : (k : Int) < (em : Int) := by omega
          have y0 : (0 : Int) ≤ (k : Int) := by omega
          obtain ⟨q0, q1_, q2, q3, q4, q5⟩ := expr_row RE.out
          dsimp only at q0 q1_ q2 q3 q4 q5
          clear hb hx hxr hld
          obtain ⟨y, hy⟩ : ∃ y, Hid (everyB (colOk n) d x = y) := ⟨_, rfl⟩
          have C := Lib.hid (IH.out x wr HXR.out (HK.out x (List.mem_of_getElem? HX.out)))
          rw [hy.out] at C
          go_wp2_with fail
          refine C.out.mono ?_
          rintro r3 w3 ⟨rfl, b3⟩
          have HB3 := Lib.hid (below_then HB.out b3)
          have RE3 := Lib.hid (row_below RE.out b3)
          clear b3 C d0 d1 d2 d3 d4 d5 q0 q1_ q2 q3 q4 q5
          cases y with
          | true =>
            have hA2 : Hid (∀ j y, j < k + 1 → eo[j]? = some y → everyB (colOk n) d y = true) := by show ∀ j y, _; exact all_next HX.out hA.out hy.out
            go_wp2_with fail
            exact ⟨⟨k + 1, by omega, by go_num, hA2, RE3, HB3⟩, by simp [intOf]; omega⟩
          | false =>
            have hr2 : Hid (s = false) := by show _ = _; rw [← hs.out]; exact all_no HX.out hy.out
            go_wp2_with fail
            go_ret
            exact ⟨ret_bool (by rw [hr2.out, Bool.and_false]), HB3.out⟩
        · obtain rfl : k = em := by omega
          have y1 : ¬ (k : Int) < (k : Int) := by omega
          obtain ⟨q0, q1_, q2, q3, q4, q5⟩ := expr_row RE.out
          dsimp only at q0 q1_ q2 q3 q4 q5
          have hr2 : Hid (s = true) := by show _ = _; rw [← hs.out]; exact all_yes HL.out hA.out
          go_wp2_with fail
          go_ret
          exact ⟨ret_bool (by rw [hr2.out, HTZ.out]; rfl), HB.out⟩

set_option maxHeartbeats 12800000 in
theorem nodes_any : ∀ (d : Nat) (e : E6) (mo : Int) (w : World), d ≤ 1000 → ReadsE w e → Calls Try.prog 25 #[e.agg, .int .i64 mo, .int .i64 (d : Int)] w fun r w' => ∃ z, r = .returned (.int .i64 z) ∧ Below w.heap.size w w'
  | 0, e, mo, w, _, h => by
    obtain ⟨w1, hw1⟩ : ∃ w1, w1 = (w.alloc (exprBox e)) := ⟨_, rfl⟩
    have HW := Lib.hid hw1
    have R0 : Hid (w1.heap[w.heap.size]? = some (exprBox e)) := by rw [hw1]; exact new_row _ _ rfl
    have HB : Hid (Below w.heap.size w w1) := by rw [hw1]; exact below_new (Below.refl _ _) _
    have SZ : Hid (w1.heap.size = w.heap.size + 1) := by show _ = _; rw [hw1]; simp only [World.size_alloc]
    obtain ⟨p0_0, p0_1, p0_2, p0_3, p0_4, p0_5⟩ := expr_row R0.out
    clear hw1
    go_enter Try.func25, Try.ntmps25
    go_upto_region 1 with fail
    rw [show (w.alloc (exprBox e)) = w1 from HW.out.symm]
    clear HW
    go_wp2_with fail
    go_ret
    first | exact ⟨_, rfl, HB.out⟩ | exact ⟨⟨_, rfl⟩, HB.out⟩
  | d + 1, e, mo, w, hd, h => by
    have IH : Hid (∀ x mo W, ReadsE W x → Calls Try.prog 25 #[.agg #[.int .i64 x.k, .int .i64 x.n, .int .i64 x.v.k, .int .i64 x.v.n, .string x.v.s, .slice x.a x.m x.c], .int .i64 mo, .int .i64 (d : Int)] W fun r w' => ∃ z, r = .returned (.int .i64 z) ∧ Below W.heap.size W w') := fun x mo W hx => nodes_any d x mo W (by omega) hx
    obtain ⟨D, hD⟩ : ∃ D : Int, ((d + 1 : Nat) : Int) = D := ⟨_, rfl⟩
    have q1 : IntKind.i64.wrap (D - 1) = (d : Int) := by rw [wrap_is (by omega)]; omega
    have qd : (D == 0) = false := beq_no (by omega)
    rw [hD]
    obtain ⟨ek, en, ev, ea, em, ec, eo⟩ := e
    have HR := Lib.hid h
    have hle : em ≤ 9223372036854775807 := h.le
    clear hD hd h
    obtain ⟨w1, hw1⟩ : ∃ w1, w1 = (w.alloc (exprBox (⟨ek, en, ev, ea, em, ec, eo⟩ : E6))) := ⟨_, rfl⟩
    have HW := Lib.hid hw1
    have R0 : Hid (w1.heap[w.heap.size]? = some (exprBox (⟨ek, en, ev, ea, em, ec, eo⟩ : E6))) := by rw [hw1]; exact new_row _ _ rfl
    have HB : Hid (Below w.heap.size w w1) := by rw [hw1]; exact below_new (Below.refl _ _) _
    have SZ : Hid (w1.heap.size = w.heap.size + 1) := by show _ = _; rw [hw1]; simp only [World.size_alloc]
    obtain ⟨p0_0, p0_1, p0_2, p0_3, p0_4, p0_5⟩ := expr_row R0.out
    clear hw1
    dsimp only at p0_0 p0_1 p0_2 p0_3 p0_4 p0_5
    go_enter Try.func25, Try.ntmps25
    go_upto_region 1 with fail
    rw [show (w.alloc (exprBox (⟨ek, en, ev, ea, em, ec, eo⟩ : E6))) = w1 from HW.out.symm]
    clear HW
    go_wp2_with fail
    clear p0_0 p0_1 p0_2 p0_3 p0_4 p0_5
    go_loopw [7, 8] (fun a i wr => ∃ (k : Nat) (z : Int), k ≤ em ∧ a = .int .i64 z ∧ i = .int .i64 k ∧ Hid (wr.heap[w.heap.size]? = some (exprBox (⟨ek, en, ev, ea, em, ec, eo⟩ : E6))) ∧ Hid (Below w.heap.size w wr)) (fun _ i _ => em - (intOf i).toNat)
    case atStart => exact ⟨0, 1, Nat.zero_le _, rfl, rfl, R0, HB⟩
    case round =>
      clear HB R0
      obtain ⟨k, z, hk, rfl, rfl, RE, HB⟩ := hrel
      by_cases hlt : k < em
      · obtain ⟨b, o, x, hab, hb, hx, hxr, hld⟩ := HR.out.at_ hlt
        dsimp only at hab hx
        subst hab
        obtain ⟨d0, d1, d2, d3, d4, d5⟩ := hld wr HB.out
        have HX := Lib.hid hx
        have HXR := Lib.hid (hxr.keep HB.out)
        have y1 : (k : Int) < (em : Int) := by omega
        have y0 : (0 : Int) ≤ (k : Int) := by omega
        obtain ⟨q0, q1_, q2, q3, q4, q5⟩ := expr_row RE.out
        dsimp only at q0 q1_ q2 q3 q4 q5
        clear hb hx hxr hld
        by_cases hz : z ≤ mo
        · go_wp2_with fail
          refine (IH.out x _ wr HXR.out).mono ?_
          rintro r3 w3 ⟨y, rfl, b3⟩
          have HB3 := Lib.hid (below_then HB.out b3)
          have RE3 := Lib.hid (row_below RE.out b3)
          clear b3 d0 d1 d2 d3 d4 d5 q0 q1_ q2 q3 q4 q5 hz
          go_wp2_with fail
          exact ⟨⟨k + 1, _, by omega, rfl, by go_num, RE3, HB3⟩, by simp [intOf]; omega⟩
        · clear d0 d1 d2 d3 d4 d5
          go_wp2_with fail
          go_ret
          first | exact ⟨_, rfl, HB.out⟩ | exact ⟨⟨_, rfl⟩, HB.out⟩
      · obtain rfl : k = em := by omega
        have y1 : ¬ (k : Int) < (k : Int) := by omega
        obtain ⟨q0, q1_, q2, q3, q4, q5⟩ := expr_row RE.out
        dsimp only at q0 q1_ q2 q3 q4 q5
        go_wp2_with fail
        go_ret
        first | exact ⟨_, rfl, HB.out⟩ | exact ⟨⟨_, rfl⟩, HB.out⟩

set_option maxHeartbeats 3200000 in
theorem few_any (e : E6) (w : World) (h : ReadsE w e) : Calls Try.prog 8 #[e.agg] w fun r w' => ∃ t, r = .returned (.bool t) ∧ Below w.heap.size w w' := by
  obtain ⟨w1, hw1⟩ : ∃ w1, w1 = (w.alloc (exprBox e)) := ⟨_, rfl⟩
  have HW := Lib.hid hw1
  have R0 : Hid (w1.heap[w.heap.size]? = some (exprBox e)) := by rw [hw1]; exact new_row _ _ rfl
  have HB : Hid (Below w.heap.size w w1) := by rw [hw1]; exact below_new (Below.refl _ _) _
  have SZ : Hid (w1.heap.size = w.heap.size + 1) := by show _ = _; rw [hw1]; simp only [World.size_alloc]
  obtain ⟨p0_0, p0_1, p0_2, p0_3, p0_4, p0_5⟩ := expr_row R0.out
  clear hw1
  have C : Hid (Calls Try.prog 25 #[.agg #[.int .i64 e.k, .int .i64 e.n, .int .i64 e.v.k, .int .i64 e.v.n, .string e.v.s, .slice e.a e.m e.c], .int .i64 60, .int .i64 25] w1 fun r w' => ∃ z, r = .returned (.int .i64 z) ∧ Below w1.heap.size w1 w') := Lib.hid (nodes_any 25 e 60 w1 (by omega) (h.keep HB.out))
  clear h
  go_enter Try.func8, Try.ntmps8
  go_upto_region 1 with fail
  rw [show (w.alloc (exprBox e)) = w1 from HW.out.symm]
  clear HW
  go_wp2_with fail
  refine C.out.mono ?_
  rintro r3 w3 ⟨y, rfl, b3⟩
  have HB3 := Lib.hid (below_then HB.out b3)
  clear b3 C
  go_wp2_with fail
  go_ret
  exact ⟨_, rfl, HB3.out⟩

set_option maxHeartbeats 6400000 in
theorem fewRow_any (A : Option Addr) (n c : Nat) (row : List V3) (w : World) (h : RdV w A n c row) : Calls Try.prog 9 #[.slice A n c] w fun r w' => ∃ t, r = .returned (.bool t) ∧ Below w.heap.size w w' := by
  have hle := h.le
  have HR := Lib.hid h
  have HB0 := Lib.hid (Below.refl w.heap.size w)
  clear h
  by_cases h1 : 40 < (n : Int)
  · go_enter Try.func9, Try.ntmps9
    go_wp2_with fail
    go_ret
    first | exact ⟨_, rfl, HB0.out⟩ | exact ⟨⟨_, rfl⟩, HB0.out⟩ | exact ⟨.inl rfl, HB0.out⟩ | exact ⟨.inr rfl, HB0.out⟩
  · go_enter Try.func9, Try.ntmps9
    go_wp2_with fail
    go_loopw [3] (fun i wr => ∃ k : Nat, k ≤ n ∧ i = .int .i64 k ∧ wr = w) (fun i _ => n - (intOf i).toNat)
    case atStart => exact ⟨0, Nat.zero_le _, rfl, by trivial⟩
    case round =>
      obtain ⟨k, hk, rfl, rfl⟩ := hrel
      by_cases hlt : k < n
      · obtain ⟨b, o, x, rfl, hb, hx, hld⟩ := HR.out.val hlt
        obtain ⟨d0, d1, d2⟩ := hld wr (Below.refl _ _)
        have y1 : (k : Int) < (n : Int) := by omega
        have y0 : (0 : Int) ≤ (k : Int) := by omega
        clear hld hb hx
        by_cases h2 : 4611686018427387904 < x.n
        · go_wp2_with fail
          go_ret
          first | exact ⟨_, rfl, HB0.out⟩ | exact ⟨⟨_, rfl⟩, HB0.out⟩ | exact ⟨.inl rfl, HB0.out⟩ | exact ⟨.inr rfl, HB0.out⟩
        · by_cases h3 : x.n < -4611686018427387904
          · go_wp2_with fail
            go_ret
            first | exact ⟨_, rfl, HB0.out⟩ | exact ⟨⟨_, rfl⟩, HB0.out⟩ | exact ⟨.inl rfl, HB0.out⟩ | exact ⟨.inr rfl, HB0.out⟩
          · go_wp2_with fail
            exact ⟨⟨k + 1, by omega, by go_num, by trivial⟩, by simp [intOf]; omega⟩
      · obtain rfl : k = n := by omega
        have y1 : ¬ (k : Int) < (k : Int) := by omega
        go_wp2_with fail
        go_ret
        first | exact ⟨_, rfl, HB0.out⟩ | exact ⟨⟨_, rfl⟩, HB0.out⟩ | exact ⟨.inl rfl, HB0.out⟩ | exact ⟨.inr rfl, HB0.out⟩
end Go.Proofs.Ytkpkkkmokgmhfaa
