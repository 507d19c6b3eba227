/- What was added on two sides is added to both, from wherever they parted; which side is first plays no part; where one side added nothing the other one is told. Of a number of 32 bits and two times up to sixty numbers of 32 bits. -/
import Derived.Test.YtieaobeidlhefaaRows
import Derived.Test.YtieaobeidlhefaaLaw
import Derived.Test.YtieaobeidlhefaaCntLaw
import Derived.Test.YtieaobeidlhefaaCellOpen
namespace Go.Proofs.Ytieaobeidlhefaa.countSides
open Go.ChangeShapes Go.WideShapes Go.ChangeAt Go.RowKit Go.ChangeMaps

set_option maxRecDepth 100000 in
set_option maxHeartbeats 12800000 in
theorem walk (z : Int) (A B : Option Addr) (n c p d : Nat) (l m : List Int) (w : World) (hz : -2147483648 ≤ z ∧ z ≤ 2147483647) (ha : Rd w A n c (vals .i32 l)) (hb : Rd w B p d (vals .i32 m)) (hl : ∀ x ∈ l, -2147483648 ≤ x ∧ x ≤ 2147483647) (hm : ∀ x ∈ m, -2147483648 ≤ x ∧ x ≤ 2147483647) :
    Calls Try.prog 13 #[.int .i32 z, .slice A n c, .slice B p d] w fun e w' => e = .returned (.bool true) ∧ Below w.heap.size w w' := by
  have HB := Lib.hid (Below.refl w.heap.size w)
  by_cases hn : n ≤ 60
  · have hn6 : ¬ (60 : Int) < (n : Int) := by omega
    by_cases hp : p ≤ 60
    · have hp6 : ¬ (60 : Int) < (p : Int) := by omega
      have hll : l.length ≤ 60 := by have : l.length = n := by simpa using ha.len
                                     omega
      have hlm : m.length ≤ 60 := by have : m.length = p := by simpa using hb.len
                                     omega
      have b1 := sum_bound l hl
      have b2 := sum_bound m hm
      obtain ⟨a, ea⟩ : ∃ a, z + l.sum = a := ⟨_, rfl⟩
      obtain ⟨b, eb⟩ : ∃ b, z + m.sum = b := ⟨_, rfl⟩
      obtain ⟨ab, eab⟩ : ∃ ab, a + m.sum = ab := ⟨_, rfl⟩
      have hcv : IntKind.i64.wrap z = z := wrap_is (by omega)
      have M1 : Hid (∀ W : World, Below w.heap.size w W → Calls Try.prog 47 #[cntV z, .slice A n c] W fun e w' => e = .returned (.tuple #[cntV a, .bool true]) ∧ Below W.heap.size W w') := by
        intro W hW
        have := cntMade_any z A n c l W (ha.below hW) hl hn (by omega)
        rwa [ea] at this
      have M2 : Hid (∀ W : World, Below w.heap.size w W → Calls Try.prog 47 #[cntV z, .slice B p d] W fun e w' => e = .returned (.tuple #[cntV b, .bool true]) ∧ Below W.heap.size W w') := by
        intro W hW
        have := cntMade_any z B p d m W (hb.below hW) hm hp (by omega)
        rwa [eb] at this
      have M3 : Hid (∀ W : World, Below w.heap.size w W → Calls Try.prog 47 #[cntV a, .slice B p d] W fun e w' => e = .returned (.tuple #[cntV ab, .bool true]) ∧ Below W.heap.size W w') := by
        intro W hW
        have := cntMade_any a B p d m W (hb.below hW) hm hp (by omega)
        rwa [eab] at this
      have oz := okC_of (s := z) (by omega); have oa := okC_of (s := a) (by omega); have ob := okC_of (s := b) (by omega); have oab := okC_of (s := ab) (by omega)
      have G1 := Lib.hid (fun W => cntMerge_is a b z ab W oa ob oz oab (by omega))
      have G2 := Lib.hid (fun W => cntMerge_is b a z ab W ob oa oz oab (by omega))
      have G3 := Lib.hid (fun W => cntMerge_is a z z a W oa oz oz oa (by omega))
      clear hll hlm b1 b2 ea eb eab oz oa ob oab ha hb hl hm hz
      go_enter Try.func13, Try.ntmps13
      go_wp2_with fail
      refine (cntAwake_any _).mono ?_
      rintro e w1 ⟨rfl, bb⟩
      replace HB := Lib.hid (below_then HB.out bb)
      clear bb
      go_wp2_with fail
      refine (refOf8_any _ _).mono ?_
      rintro e w2 ⟨rfl, bb⟩
      replace HB := Lib.hid (below_then HB.out bb)
      clear bb
      obtain ⟨w3, hw⟩ : ∃ w', w' = w2.alloc (cntRow z) := ⟨_, rfl⟩
      have RO : Hid (w3.heap[w2.heap.size]? = some (cntRow z)) := by rw [hw]; exact heap_alloc_new _ _
      have bb : Below w2.heap.size w2 w3 := by rw [hw]; exact below_new (Below.refl _ _) _
      replace hw := Lib.hid hw
      replace HB := Lib.hid (below_then HB.out bb)
      clear bb
      go_upto_region 5 with fail
      rw [show w2.alloc (Obj.cells #[Value.int .i64 2, .int .i64 1, .int .i64 z, .string ⟨#[]⟩, .slice none 0 0] 26) = w3 from hw.out.symm]
      clear hw
      generalize w2.heap.size = gRO at RO ⊢
      obtain ⟨RO0, RO1, RO2, RO3, RO4⟩ := cell_row5 RO.out
      try dsimp only at RO0 RO1 RO2 RO3 RO4
      go_wp2_with fail
      refine (M1.out _ HB.out).mono ?_
      rintro e w4 ⟨rfl, bb⟩
      replace RO := Lib.hid (row_below RO.out bb)
      replace HB := Lib.hid (below_then HB.out bb)
      clear bb
      clear RO0 RO1 RO2 RO3 RO4
      obtain ⟨w5, hw⟩ : ∃ w', w' = w4.alloc (cntRow a) := ⟨_, rfl⟩
      have RA : Hid (w5.heap[w4.heap.size]? = some (cntRow a)) := by rw [hw]; exact heap_alloc_new _ _
      have bb : Below w4.heap.size w4 w5 := by rw [hw]; exact below_new (Below.refl _ _) _
      replace hw := Lib.hid hw
      replace RO := Lib.hid (row_below RO.out bb)
      replace HB := Lib.hid (below_then HB.out bb)
      clear bb
      go_upto_region 6 with fail
      rw [show w4.alloc (Obj.cells #[Value.int .i64 2, .int .i64 1, .int .i64 a, .string ⟨#[]⟩, .slice none 0 0] 26) = w5 from hw.out.symm]
      clear hw
      generalize w4.heap.size = gRA at RA ⊢
      obtain ⟨RO0, RO1, RO2, RO3, RO4⟩ := cell_row5 RO.out
      try dsimp only at RO0 RO1 RO2 RO3 RO4
      go_wp2_with fail
      refine (M2.out _ HB.out).mono ?_
      rintro e w6 ⟨rfl, bb⟩
      replace RO := Lib.hid (row_below RO.out bb)
      replace RA := Lib.hid (row_below RA.out bb)
      replace HB := Lib.hid (below_then HB.out bb)
      clear bb
      clear RO0 RO1 RO2 RO3 RO4
      obtain ⟨w7, hw⟩ : ∃ w', w' = w6.alloc (cntRow b) := ⟨_, rfl⟩
      have RB : Hid (w7.heap[w6.heap.size]? = some (cntRow b)) := by rw [hw]; exact heap_alloc_new _ _
      have bb : Below w6.heap.size w6 w7 := by rw [hw]; exact below_new (Below.refl _ _) _
      replace hw := Lib.hid hw
      replace RO := Lib.hid (row_below RO.out bb)
      replace RA := Lib.hid (row_below RA.out bb)
      replace HB := Lib.hid (below_then HB.out bb)
      clear bb
      go_upto_region 7 with fail
      rw [show w6.alloc (Obj.cells #[Value.int .i64 2, .int .i64 1, .int .i64 b, .string ⟨#[]⟩, .slice none 0 0] 26) = w7 from hw.out.symm]
      clear hw
      generalize w6.heap.size = gRB at RB ⊢
      obtain ⟨RA0, RA1, RA2, RA3, RA4⟩ := cell_row5 RA.out
      try dsimp only at RA0 RA1 RA2 RA3 RA4
      go_wp2_with fail
      refine (M3.out _ HB.out).mono ?_
      rintro e w8 ⟨rfl, bb⟩
      replace RO := Lib.hid (row_below RO.out bb)
      replace RA := Lib.hid (row_below RA.out bb)
      replace RB := Lib.hid (row_below RB.out bb)
      replace HB := Lib.hid (below_then HB.out bb)
      clear bb
      clear RA0 RA1 RA2 RA3 RA4
      obtain ⟨w9, hw⟩ : ∃ w', w' = w8.alloc (cntRow ab) := ⟨_, rfl⟩
      have RD : Hid (w9.heap[w8.heap.size]? = some (cntRow ab)) := by rw [hw]; exact heap_alloc_new _ _
      have bb : Below w8.heap.size w8 w9 := by rw [hw]; exact below_new (Below.refl _ _) _
      replace hw := Lib.hid hw
      replace RO := Lib.hid (row_below RO.out bb)
      replace RA := Lib.hid (row_below RA.out bb)
      replace RB := Lib.hid (row_below RB.out bb)
      replace HB := Lib.hid (below_then HB.out bb)
      clear bb
      go_upto_region 8 with fail
      rw [show w8.alloc (Obj.cells #[Value.int .i64 2, .int .i64 1, .int .i64 ab, .string ⟨#[]⟩, .slice none 0 0] 26) = w9 from hw.out.symm]
      clear hw
      generalize w8.heap.size = gRD at RD ⊢
      obtain ⟨RA0, RA1, RA2, RA3, RA4⟩ := cell_row5 RA.out
      try dsimp only at RA0 RA1 RA2 RA3 RA4
      obtain ⟨RB0, RB1, RB2, RB3, RB4⟩ := cell_row5 RB.out
      try dsimp only at RB0 RB1 RB2 RB3 RB4
      obtain ⟨RO0, RO1, RO2, RO3, RO4⟩ := cell_row5 RO.out
      try dsimp only at RO0 RO1 RO2 RO3 RO4
      go_wp2_with fail
      refine (G1.out _).mono ?_
      rintro e w10 ⟨rfl, bb⟩
      replace RO := Lib.hid (row_below RO.out bb)
      replace RA := Lib.hid (row_below RA.out bb)
      replace RB := Lib.hid (row_below RB.out bb)
      replace RD := Lib.hid (row_below RD.out bb)
      replace HB := Lib.hid (below_then HB.out bb)
      clear bb
      clear RA0 RA1 RA2 RA3 RA4 RB0 RB1 RB2 RB3 RB4 RO0 RO1 RO2 RO3 RO4
      obtain ⟨w11, hw⟩ : ∃ w', w' = w10.alloc (cntRow ab) := ⟨_, rfl⟩
      have RX : Hid (w11.heap[w10.heap.size]? = some (cntRow ab)) := by rw [hw]; exact heap_alloc_new _ _
      have bb : Below w10.heap.size w10 w11 := by rw [hw]; exact below_new (Below.refl _ _) _
      replace hw := Lib.hid hw
      replace RO := Lib.hid (row_below RO.out bb)
      replace RA := Lib.hid (row_below RA.out bb)
      replace RB := Lib.hid (row_below RB.out bb)
      replace RD := Lib.hid (row_below RD.out bb)
      replace HB := Lib.hid (below_then HB.out bb)
      clear bb
      go_upto_region 9 with fail
      rw [show w10.alloc (Obj.cells #[Value.int .i64 2, .int .i64 1, .int .i64 ab, .string ⟨#[]⟩, .slice none 0 0] 26) = w11 from hw.out.symm]
      clear hw
      generalize w10.heap.size = gRX at RX ⊢
      obtain ⟨RA0, RA1, RA2, RA3, RA4⟩ := cell_row5 RA.out
      try dsimp only at RA0 RA1 RA2 RA3 RA4
      obtain ⟨RB0, RB1, RB2, RB3, RB4⟩ := cell_row5 RB.out
      try dsimp only at RB0 RB1 RB2 RB3 RB4
      obtain ⟨RO0, RO1, RO2, RO3, RO4⟩ := cell_row5 RO.out
      try dsimp only at RO0 RO1 RO2 RO3 RO4
      go_wp2_with fail
      refine (G2.out _).mono ?_
      rintro e w12 ⟨rfl, bb⟩
      replace RO := Lib.hid (row_below RO.out bb)
      replace RA := Lib.hid (row_below RA.out bb)
      replace RB := Lib.hid (row_below RB.out bb)
      replace RD := Lib.hid (row_below RD.out bb)
      replace RX := Lib.hid (row_below RX.out bb)
      replace HB := Lib.hid (below_then HB.out bb)
      clear bb
      clear RA0 RA1 RA2 RA3 RA4 RB0 RB1 RB2 RB3 RB4 RO0 RO1 RO2 RO3 RO4
      obtain ⟨w13, hw⟩ : ∃ w', w' = w12.alloc (cntRow ab) := ⟨_, rfl⟩
      have RY : Hid (w13.heap[w12.heap.size]? = some (cntRow ab)) := by rw [hw]; exact heap_alloc_new _ _
      have bb : Below w12.heap.size w12 w13 := by rw [hw]; exact below_new (Below.refl _ _) _
      replace hw := Lib.hid hw
      replace RO := Lib.hid (row_below RO.out bb)
      replace RA := Lib.hid (row_below RA.out bb)
      replace RB := Lib.hid (row_below RB.out bb)
      replace RD := Lib.hid (row_below RD.out bb)
      replace RX := Lib.hid (row_below RX.out bb)
      replace HB := Lib.hid (below_then HB.out bb)
      clear bb
      go_upto_region 10 with fail
      rw [show w12.alloc (Obj.cells #[Value.int .i64 2, .int .i64 1, .int .i64 ab, .string ⟨#[]⟩, .slice none 0 0] 26) = w13 from hw.out.symm]
      clear hw
      generalize w12.heap.size = gRY at RY ⊢
      obtain ⟨RA0, RA1, RA2, RA3, RA4⟩ := cell_row5 RA.out
      try dsimp only at RA0 RA1 RA2 RA3 RA4
      obtain ⟨RO0, RO1, RO2, RO3, RO4⟩ := cell_row5 RO.out
      try dsimp only at RO0 RO1 RO2 RO3 RO4
      go_wp2_with fail
      refine (G3.out _).mono ?_
      rintro e w14 ⟨rfl, bb⟩
      replace RO := Lib.hid (row_below RO.out bb)
      replace RA := Lib.hid (row_below RA.out bb)
      replace RB := Lib.hid (row_below RB.out bb)
      replace RD := Lib.hid (row_below RD.out bb)
      replace RX := Lib.hid (row_below RX.out bb)
      replace RY := Lib.hid (row_below RY.out bb)
      replace HB := Lib.hid (below_then HB.out bb)
      clear bb
      clear RA0 RA1 RA2 RA3 RA4 RO0 RO1 RO2 RO3 RO4
      obtain ⟨w15, hw⟩ : ∃ w', w' = w14.alloc (cntRow a) := ⟨_, rfl⟩
      have RZ : Hid (w15.heap[w14.heap.size]? = some (cntRow a)) := by rw [hw]; exact heap_alloc_new _ _
      have bb : Below w14.heap.size w14 w15 := by rw [hw]; exact below_new (Below.refl _ _) _
      replace hw := Lib.hid hw
      replace RO := Lib.hid (row_below RO.out bb)
      replace RA := Lib.hid (row_below RA.out bb)
      replace RB := Lib.hid (row_below RB.out bb)
      replace RD := Lib.hid (row_below RD.out bb)
      replace RX := Lib.hid (row_below RX.out bb)
      replace RY := Lib.hid (row_below RY.out bb)
      replace HB := Lib.hid (below_then HB.out bb)
      clear bb
      go_upto_region 11 with fail
      rw [show w14.alloc (Obj.cells #[Value.int .i64 2, .int .i64 1, .int .i64 a, .string ⟨#[]⟩, .slice none 0 0] 26) = w15 from hw.out.symm]
      clear hw
      generalize w14.heap.size = gRZ at RZ ⊢
      obtain ⟨RX0, RX1, RX2, RX3, RX4⟩ := cell_row5 RX.out
      try dsimp only at RX0 RX1 RX2 RX3 RX4
      obtain ⟨RD0, RD1, RD2, RD3, RD4⟩ := cell_row5 RD.out
      try dsimp only at RD0 RD1 RD2 RD3 RD4
      go_wp2_with fail
      refine (same_self _ _ _ _ _).mono ?_
      rintro e w16 ⟨rfl, bb⟩
      replace RO := Lib.hid (row_below RO.out bb)
      replace RA := Lib.hid (row_below RA.out bb)
      replace RB := Lib.hid (row_below RB.out bb)
      replace RD := Lib.hid (row_below RD.out bb)
      replace RX := Lib.hid (row_below RX.out bb)
      replace RY := Lib.hid (row_below RY.out bb)
      replace RZ := Lib.hid (row_below RZ.out bb)
      replace HB := Lib.hid (below_then HB.out bb)
      clear bb
      clear RX0 RX1 RX2 RX3 RX4 RD0 RD1 RD2 RD3 RD4
      obtain ⟨RY0, RY1, RY2, RY3, RY4⟩ := cell_row5 RY.out
      try dsimp only at RY0 RY1 RY2 RY3 RY4
      obtain ⟨RD0, RD1, RD2, RD3, RD4⟩ := cell_row5 RD.out
      try dsimp only at RD0 RD1 RD2 RD3 RD4
      go_wp2_with fail
      refine (same_self _ _ _ _ _).mono ?_
      rintro e w17 ⟨rfl, bb⟩
      replace RO := Lib.hid (row_below RO.out bb)
      replace RA := Lib.hid (row_below RA.out bb)
      replace RB := Lib.hid (row_below RB.out bb)
      replace RD := Lib.hid (row_below RD.out bb)
      replace RX := Lib.hid (row_below RX.out bb)
      replace RY := Lib.hid (row_below RY.out bb)
      replace RZ := Lib.hid (row_below RZ.out bb)
      replace HB := Lib.hid (below_then HB.out bb)
      clear bb
      clear RY0 RY1 RY2 RY3 RY4 RD0 RD1 RD2 RD3 RD4
      obtain ⟨RZ0, RZ1, RZ2, RZ3, RZ4⟩ := cell_row5 RZ.out
      try dsimp only at RZ0 RZ1 RZ2 RZ3 RZ4
      obtain ⟨RA0, RA1, RA2, RA3, RA4⟩ := cell_row5 RA.out
      try dsimp only at RA0 RA1 RA2 RA3 RA4
      go_wp2_with fail
      refine (same_self _ _ _ _ _).mono ?_
      rintro e w18 ⟨rfl, bb⟩
      replace RO := Lib.hid (row_below RO.out bb)
      replace RA := Lib.hid (row_below RA.out bb)
      replace RB := Lib.hid (row_below RB.out bb)
      replace RD := Lib.hid (row_below RD.out bb)
      replace RX := Lib.hid (row_below RX.out bb)
      replace RY := Lib.hid (row_below RY.out bb)
      replace RZ := Lib.hid (row_below RZ.out bb)
      replace HB := Lib.hid (below_then HB.out bb)
      clear bb
      go_wp2_with fail
      go_ret
      exact ⟨rfl, HB.out⟩
    · have hp6 : (60 : Int) < (p : Int) := by omega
      clear hp hn ha hb hl hm hz
      go_enter Try.func13, Try.ntmps13
      go_wp2_with fail
      refine (cntAwake_any _).mono ?_
      rintro e w1 ⟨rfl, bb⟩
      replace HB := Lib.hid (below_then HB.out bb)
      clear bb
      go_wp2_with fail
      go_ret
      exact ⟨rfl, HB.out⟩
  · have hn6 : (60 : Int) < (n : Int) := by omega
    clear hn ha hb hl hm hz
    go_enter Try.func13, Try.ntmps13
    go_wp2_with fail
    refine (cntAwake_any _).mono ?_
    rintro e w1 ⟨rfl, bb⟩
    replace HB := Lib.hid (below_then HB.out bb)
    clear bb
    go_wp2_with fail
    go_ret
    exact ⟨rfl, HB.out⟩

set_option maxRecDepth 100000 in
theorem contract (H : Type) (enc : TypeId × Value → H) (W : World) (base : Nat) (args : Array Value) (ds gs : List (DataW H)) (before : List MemPlace)
    (hval : ∀ (j : Nat) t v, Try.f13.params[j]? = some t → args[j]? = some v → Value.okWide Try.prog W .any base t v)
    (hW : DataW.Whole enc Try.prog Try.f13.params.toList Rows.countSidesSpec.vars false W args.toList ds gs before) :
    Calls Try.prog 13 args W fun e W' => ∃ v, e = .returned v ∧ Rows.countSidesSpec.post enc Try.prog Try.f13 false true false false W args v W' := by
  have hlt : ∀ x ∈ before, x.block < W.heap.size := fun x hx => by simpa using hW.lt x hx
  refine law_step 4 Try.laid_ (by kernel_rfl) rfl Try.underlying4 rfl hW (fun xs hx => ?_) ?_
  · match xs, hx with
    | [d0, d1, d2], _ => rfl
  · obtain ⟨p, q, hA0, hV, rfl, _, _⟩ := hW
    have hA : DataW.TrodAll enc Try.prog W 0 (fun _ => true) true Try.f13.params.toList args.toList ds p := hA0
    rw [Try.params13] at hA hval
    obtain ⟨v0, vs0, d0, ds0, p0, q0, e0, rfl, rfl, h0, r0⟩ := trodAll_cons hA
    obtain ⟨v1, vs1, d1, ds1, p1, q1, e1, rfl, rfl, h1, r1⟩ := trodAll_cons r0
    obtain ⟨v2, vs2, d2, ds2, p2, q2, e2, rfl, rfl, h2, r2⟩ := trodAll_cons r1
    obtain ⟨rfl, rfl, rfl⟩ := trodAll_nil r2
    subst e2
    subst e1
    obtain rfl : args = #[v0, v1, v2] := by cases args; simp_all
    clear e0 hA0
    obtain ⟨z, rfl, rfl, rfl, w0⟩ := open_int Try.underlying21 (hval 0 21 v0 rfl rfl) h0
    obtain ⟨lo0, hi0⟩ := wf_i32r w0
    obtain ⟨A1, n1, c1, l, rfl, rd1, wf1⟩ := open_sl (k := .i32) Try.underlying65 Try.underlying21 (by kernel_rfl) (hval 1 65 v1 rfl rfl) h1 (fun x hx => hlt x (by simp [hx]))
    obtain ⟨A2, n2, c2, m, rfl, rd2, wf2⟩ := open_sl (k := .i32) Try.underlying65 Try.underlying21 (by kernel_rfl) (hval 2 65 v2 rfl rfl) h2 (fun x hx => hlt x (by simp [hx]))
    exact walk z A1 A2 n1 c1 n2 c2 l m W ⟨lo0, hi0⟩ rd1 rd2 (fun x hx => wf_i32r (wf1 x hx)) (fun x hx => wf_i32r (wf2 x hx))

set_option maxRecDepth 100000 in
theorem lifted (os : Os) (started : os.Started) (H : Type) (enc : TypeId × Value → H) :
    ReturnsInHanded {} Try.checked os 13 .any (Rows.countSidesSpec.pre6 enc Try.prog Try.f13 Rows.countSidesRow.domain false) (Rows.countSidesSpec.post enc Try.prog Try.f13 false true false false) := by
  refine returnsInHanded_of_change (C := Try.checked) Try.own_ started (by kernel_rfl) Try.func13
    (ChangeSpec.witness6 (enc := enc) (C := Try.checked) false ⟨#[], #[.int .i32 0, .slice none 0 0, .slice none 0 0], []⟩ 8 (by kernel_rfl) (by kernel_rfl) (by kernel_rfl) (by kernel_rfl)) ?_
  intro W base args ds gs before hval hW _ _
  exact contract H enc W base args ds gs before hval hW

theorem holds : Rows.CountSidesSaid :=
  OpenClaim.holds_of_wide 13 Try.f13 rfl rfl rfl rfl rfl rfl rfl ⟨rfl, rfl, rfl, rfl, rfl⟩ rfl rfl rfl rfl rfl (by kernel_rfl) Try.func13 (by kernel_rfl)
    (of_decide_eq_true (by kernel_rfl)) (by unfold Func.isWrapper; first | (rw [if_pos (by decide +kernel)]; kernel_rfl) | (rw [if_neg (by decide +kernel)]; exact ⟨rfl, rfl⟩))
    (fun os started H enc _ => lifted os started H enc)
end Go.Proofs.Ytieaobeidlhefaa.countSides
