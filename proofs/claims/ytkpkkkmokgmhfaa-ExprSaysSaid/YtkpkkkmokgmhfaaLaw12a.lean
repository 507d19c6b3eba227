/- Whatever expression and row come in: ExprSays answers true: what an expression says of a row, and whether it holds, or why that is not told, is as the document says. No condition. -/
import Derived.Test.YtkpkkkmokgmhfaaRows
import Derived.Test.YtkpkkkmokgmhfaaLaw
import Derived.Test.YtkpkkkmokgmhfaaExpAwake
import Derived.Test.YtkpkkkmokgmhfaaExpOpen
namespace Go.Proofs.Ytkpkkkmokgmhfaa.exprSays
open Go.ChangeShapes Go.WideShapes Go.ChangeAt Go.RowKit Go.ChangeMaps

theorem take_all {row : List V3} {k : Nat} {x : V3} (hx : row[k]? = some x) : (row.take (k + 1)).all mayV = ((row.take k).all mayV && mayV x) := by
  rw [List.take_add_one, hx, List.all_append]; simp
set_option maxRecDepth 100000 in
set_option maxHeartbeats 25600000 in
theorem walk (e : E6) (A : Option Addr) (n c : Nat) (row : List V3) (w : World) (h : ReadsE w e) (hrow : RdV w A n c row) : Calls Try.prog 3 #[e.agg, .slice A n c] w fun r w' => r = .returned (.bool true) ∧ Below w.heap.size w w' := by
  have HROW := Lib.hid hrow
  have HLR : Hid (row.length = n) := hrow.len
  have hle := hrow.le
  clear hrow
  obtain ⟨w1, hw1⟩ : ∃ w1, w1 = (w.alloc (exprBox e)) := ⟨_, rfl⟩
  have HW := Lib.hid hw1
  have R0 : Hid (w1.heap[w.heap.size]? = some (exprBox e)) := by rw [hw1]; exact new_row _ _ rfl
  have HB : Hid (Below w.heap.size w w1) := by rw [hw1]; exact below_new (Below.refl _ _) _
  have SZ : Hid (w1.heap.size = w.heap.size + 1) := by show _ = _; rw [hw1]; simp only [World.size_alloc]
  obtain ⟨p0_0, p0_1, p0_2, p0_3, p0_4, p0_5⟩ := expr_row R0.out
  clear hw1
  have HR := Lib.hid h
  clear h
  go_enter Try.func3, Try.ntmps3
  go_upto_region 1 with fail
  rw [show (w.alloc (exprBox e)) = w1 from HW.out.symm]
  clear HW p0_0 p0_1 p0_2 p0_3 p0_4 p0_5
  go_wp2_with fail
  refine (awake12_any _).mono ?_
  rintro r2 w2 ⟨rfl, b2⟩
  have HB2 := Lib.hid (below_then HB.out b2)
  have RE2 := Lib.hid (row_below R0.out b2)
  clear b2 R0 HB SZ
  obtain ⟨p0_0, p0_1, p0_2, p0_3, p0_4, p0_5⟩ := expr_row RE2.out
  go_wp2_with fail
  refine (few_any e _ (HR.out.keep HB2.out)).mono ?_
  rintro r3 w3 ⟨fw, rfl, b3⟩
  have HB3 := Lib.hid (below_then HB2.out b3)
  have RE3 := Lib.hid (row_below RE2.out b3)
  clear b3 p0_0 p0_1 p0_2 p0_3 p0_4 p0_5 HB2 RE2
  go_wp2_with fail
  refine (fewRow_any A n c row _ (HROW.out.below HB3.out)).mono ?_
  rintro r4 w4 ⟨fr, rfl, b4⟩
  have HB4 := Lib.hid (below_then HB3.out b4)
  have RE4 := Lib.hid (row_below RE3.out b4)
  clear b4 HB3 RE3
  cases fw with
  | false =>
    go_wp2_with fail
    go_ret
    exact ⟨rfl, HB4.out⟩
  | true =>
  cases fr with
  | false =>
    go_wp2_with fail
    go_ret
    exact ⟨rfl, HB4.out⟩
  | true =>
  go_wp2_with fail
  go_loopw [8, 9] (fun a i wr => ∃ (k : Nat) (t : Bool), k ≤ n ∧ a = .bool t ∧ i = .int .i64 k ∧ Hid (t = (row.take k).all mayV) ∧ Hid (wr.heap[w.heap.size]? = some (exprBox e)) ∧ Hid (Below w.heap.size w wr)) (fun _ i _ => n - (intOf i).toNat)
  case atStart => exact ⟨0, true, Nat.zero_le _, rfl, rfl, rfl, RE4, HB4⟩
  case round =>
    clear RE4 HB4
    obtain ⟨k, t, hk, rfl, rfl, ht, RE4, HB4⟩ := hrel
    by_cases hlt : k < n
    · obtain ⟨b, o, x, rfl, hb, hx, hld⟩ := HROW.out.val hlt
      obtain ⟨d0, d1, d2⟩ := hld wr HB4.out
      obtain ⟨q, hq⟩ : ∃ q, Hid (mayV x = q) := ⟨_, rfl⟩
      have C := Lib.hid (refValue_any x wr)
      rw [hq.out] at C
      have ht2 : Hid ((t && q) = (row.take (k + 1)).all mayV) := by show _ = _; rw [take_all hx, ← ht.out, hq.out]
      have y1 : (k : Int) < (n : Int) := by omega
      have y0 : (0 : Int) ≤ (k : Int) := by omega
      clear hld hb hx hq
      go_wp2_with fail
      refine C.out.mono ?_
      rintro r5 w5 ⟨rfl, b5⟩
      have HB5 := Lib.hid (below_then HB4.out b5)
      have RE5 := Lib.hid (row_below RE4.out b5)
      clear b5 C d0 d1 d2
      cases t with
      | true =>
        go_wp2_with fail
        exact ⟨⟨k + 1, q, by omega, rfl, by go_num, ht2, RE5, HB5⟩, by simp [intOf]; omega⟩
      | false =>
        go_wp2_with fail
        exact ⟨⟨k + 1, false, by omega, rfl, by go_num, ht2, RE5, HB5⟩, by simp [intOf]; omega⟩
    · obtain rfl : k = n := by omega
      have y1 : ¬ (k : Int) < (k : Int) := by omega
      cases t with
      | false =>
        go_wp2_with fail
        go_ret
        exact ⟨rfl, HB4.out⟩
      | true =>
        have HM : Hid (∀ v ∈ row, mayV v = true) := by
          show ∀ v ∈ row, _
          have h := ht.out
          rw [List.take_of_length_le (by rw [HLR.out]; exact Nat.le_refl _)] at h
          exact List.all_eq_true.1 h.symm
        obtain ⟨y, hy⟩ : ∃ y, Hid (evalE e row = y) := ⟨_, rfl⟩
        obtain ⟨z, hz⟩ : ∃ z, Hid (holdsE y = z) := ⟨_, rfl⟩
        have CE : Hid (∀ W, Below w.heap.size w W → Calls Try.prog 11 #[.agg #[.int .i64 e.k, .int .i64 e.n, .int .i64 e.v.k, .int .i64 e.v.n, .string e.v.s, .slice e.a e.m e.c], .slice A k c] W fun r w' => r = .returned (.tuple #[.agg #[.int .i64 y.1.k, .int .i64 y.1.n, .string y.1.s], .int .i64 y.2]) ∧ Below W.heap.size W w') := fun W hW => by rw [← hy.out]; exact eval_any e A k c row W (HR.out.keep hW) (HROW.out.below hW) HM.out
        have CF : Hid (∀ W, Below w.heap.size w W → Calls Try.prog 12 #[.agg #[.int .i64 e.k, .int .i64 e.n, .int .i64 e.v.k, .int .i64 e.v.n, .string e.v.s, .slice e.a e.m e.c], .slice A k c] W fun r w' => r = .returned (.tuple #[.agg #[.int .i64 y.1.k, .int .i64 y.1.n, .string y.1.s], .int .i64 y.2]) ∧ Below W.heap.size W w') := fun W hW => by rw [← hy.out]; exact refEval_any e A k c row W (HR.out.keep hW) (HROW.out.below hW) HM.out
        have CH : Hid (∀ W, Below w.heap.size w W → Calls Try.prog 13 #[.agg #[.int .i64 e.k, .int .i64 e.n, .int .i64 e.v.k, .int .i64 e.v.n, .string e.v.s, .slice e.a e.m e.c], .slice A k c] W fun r w' => r = .returned (.tuple #[.bool z.1, .int .i64 z.2]) ∧ Below W.heap.size W w') := fun W hW => by rw [← hz.out, ← hy.out]; exact holds_any e A k c row W (HR.out.keep hW) (HROW.out.below hW) HM.out
        have CI : Hid (∀ W, Below w.heap.size w W → Calls Try.prog 14 #[.agg #[.int .i64 e.k, .int .i64 e.n, .int .i64 e.v.k, .int .i64 e.v.n, .string e.v.s, .slice e.a e.m e.c], .slice A k c] W fun r w' => r = .returned (.tuple #[.bool z.1, .int .i64 z.2]) ∧ Below W.heap.size W w') := fun W hW => by rw [← hz.out, ← hy.out]; exact refHolds_any e A k c row W (HR.out.keep hW) (HROW.out.below hW) HM.out
        obtain ⟨yv, ye⟩ := y
        obtain ⟨zb, ze⟩ := z
        dsimp only at CE CF CH CI
        have EQ := fun W => run_eqV yv yv W
        rw [decide_eq_true rfl] at EQ
        clear hy hz
        obtain ⟨p0_0, p0_1, p0_2, p0_3, p0_4, p0_5⟩ := expr_row RE4.out
        have C := Lib.hid (CE.out _ HB4.out)
        go_wp2_with fail
        refine C.out.mono ?_
        rintro r5 w5 ⟨rfl, b5⟩
        have HB5 := Lib.hid (below_then HB4.out b5)
        have RE5 := Lib.hid (row_below RE4.out b5)
        clear b5 C p0_0 p0_1 p0_2 p0_3 p0_4 p0_5 HB4 RE4
        obtain ⟨w6, hw6⟩ : ∃ V, V = w5.alloc (valBox yv) := ⟨_, rfl⟩
        have HW6 := Lib.hid hw6
        have b6 : Below w5.heap.size w5 w6 := by rw [hw6]; exact below_new (Below.refl _ _) _
        have RA : Hid (w6.heap[w5.heap.size]? = some (valBox yv)) := by rw [hw6]; exact heap_alloc_new _ _
        have HB6 := Lib.hid (below_then HB5.out b6)
        have RE6 := Lib.hid (row_below RE5.out b6)
        clear b6 hw6 HB5 RE5
        go_upto_region 15 with fail
        rw [show w5.alloc (valBox yv) = w6 from HW6.out.symm]
        clear HW6
        generalize w5.heap.size = gRA at RA ⊢
        obtain ⟨p0_0, p0_1, p0_2, p0_3, p0_4, p0_5⟩ := expr_row RE6.out
        have C := Lib.hid (CF.out _ HB6.out)
        go_wp2_with fail
        refine C.out.mono ?_
        rintro r7 w7 ⟨rfl, b7⟩
        have HB7 := Lib.hid (below_then HB6.out b7)
        have RE7 := Lib.hid (row_below RE6.out b7)
        replace RA := Lib.hid (row_below RA.out b7)
        clear b7 C p0_0 p0_1 p0_2 p0_3 p0_4 p0_5 HB6 RE6
        obtain ⟨w8, hw8⟩ : ∃ V, V = w7.alloc (valBox yv) := ⟨_, rfl⟩
        have HW8 := Lib.hid hw8
        have b8 : Below w7.heap.size w7 w8 := by rw [hw8]; exact below_new (Below.refl _ _) _
        have RB : Hid (w8.heap[w7.heap.size]? = some (valBox yv)) := by rw [hw8]; exact heap_alloc_new _ _
        have HB8 := Lib.hid (below_then HB7.out b8)
        have RE8 := Lib.hid (row_below RE7.out b8)
        replace RA := Lib.hid (row_below RA.out b8)
        clear b8 hw8 HB7 RE7
        go_upto_region 16 with fail
        rw [show w7.alloc (valBox yv) = w8 from HW8.out.symm]
        clear HW8
        generalize w7.heap.size = gRB at RB ⊢
        obtain ⟨p0_0, p0_1, p0_2, p0_3, p0_4, p0_5⟩ := expr_row RE8.out
        have C := Lib.hid (CH.out _ HB8.out)
        go_wp2_with fail
        refine C.out.mono ?_
        rintro r9 w9 ⟨rfl, b9⟩
        have HB9 := Lib.hid (below_then HB8.out b9)
        have RE9 := Lib.hid (row_below RE8.out b9)
        replace RA := Lib.hid (row_below RA.out b9)
        replace RB := Lib.hid (row_below RB.out b9)
        clear b9 C p0_0 p0_1 p0_2 p0_3 p0_4 p0_5 HB8 RE8
        obtain ⟨p0_0, p0_1, p0_2, p0_3, p0_4, p0_5⟩ := expr_row RE9.out
        have C := Lib.hid (CI.out _ HB9.out)
        go_wp2_with fail
        refine C.out.mono ?_
        rintro r10 w10 ⟨rfl, b10⟩
        have HB10 := Lib.hid (below_then HB9.out b10)
        have RE10 := Lib.hid (row_below RE9.out b10)
        replace RA := Lib.hid (row_below RA.out b10)
        replace RB := Lib.hid (row_below RB.out b10)
        clear b10 C p0_0 p0_1 p0_2 p0_3 p0_4 p0_5 HB9 RE9
        obtain ⟨a0, a1, a2⟩ := valB_row RA.out
        obtain ⟨b0, b1, b2⟩ := valB_row RB.out
        have e1 : (ye == ye) = true := by simp
        have e2 : (ze == ze) = true := by simp
        go_wp2_with fail
        go_ret
        exact ⟨by simp, HB10.out⟩

set_option maxRecDepth 100000 in
theorem contract (H : Type) (enc : TypeId × Value → H) (W : World) (base : Nat) (args : Array Value) (ds gs : List (DataW H)) (before : List MemPlace)
    (hval : ∀ (j : Nat) t v, Try.f3.params[j]? = some t → args[j]? = some v → Value.okWide Try.prog W .any base t v)
    (hW : DataW.Whole enc Try.prog Try.f3.params.toList Rows.exprSaysSpec.vars false W args.toList ds gs before) :
    Calls Try.prog 3 args W fun e W' => ∃ v, e = .returned v ∧ Rows.exprSaysSpec.post enc Try.prog Try.f3 false true false false W args v W' := by
  have hlt : ∀ x ∈ before, x.block < W.heap.size := fun x hx => by simpa using hW.lt x hx
  refine law_step 4 Try.laid_ (by kernel_rfl) rfl Try.underlying4 rfl hW (fun xs hx => ?_) ?_
  · match xs, hx with
    | [d0, d1], _ => rfl
  · obtain ⟨p, q, hA0, hV, rfl, _, _⟩ := hW
    have hA : DataW.TrodAll enc Try.prog W 0 (fun _ => true) true Try.f3.params.toList args.toList ds p := hA0
    rw [Try.params3] at hA hval
    obtain ⟨v0, vs0, d0, ds0, p0, q0, e0, rfl, rfl, h0, r0⟩ := trodAll_cons hA
    obtain ⟨v1, vs1, d1, ds1, p1, q1, e1, rfl, rfl, h1, r1⟩ := trodAll_cons r0
    obtain ⟨rfl, rfl, rfl⟩ := trodAll_nil r1
    subst e1
    obtain rfl : args = #[v0, v1] := by cases args; simp_all
    clear e0 hA0
    obtain ⟨e0, rfl, rd0⟩ := open_expr (hval 0 26 v0 rfl rfl) h0
    obtain ⟨A1, n1, c1, l1, rfl, rd1, wf1⟩ := open_row (hval 1 28 v1 rfl rfl) h1
    exact walk e0 A1 n1 c1 l1 W rd0 rd1

set_option maxRecDepth 100000 in
theorem lifted (os : Os) (started : os.Started) (H : Type) (enc : TypeId × Value → H) :
    ReturnsInHanded {} Try.checked os 3 .any (Rows.exprSaysSpec.pre6 enc Try.prog Try.f3 Rows.exprSaysRow.domain false) (Rows.exprSaysSpec.post enc Try.prog Try.f3 false true false false) := by
  refine returnsInHanded_of_change (C := Try.checked) Try.own_ started (by kernel_rfl) Try.func3
    (ChangeSpec.witness6 (enc := enc) (C := Try.checked) false ⟨#[], #[.agg #[.int .i64 0, .int .i64 0, .int .i64 0, .int .i64 0, .string ⟨#[]⟩, .slice none 0 0], .slice none 0 0], []⟩ 8 (by kernel_rfl) (by kernel_rfl) (by kernel_rfl) (by kernel_rfl)) ?_
  intro W base args ds gs before hval hW _ _
  exact contract H enc W base args ds gs before hval hW

theorem holds : Rows.ExprSaysSaid :=
  OpenClaim.holds_of_wide 3 Try.f3 rfl rfl rfl rfl rfl rfl rfl ⟨rfl, rfl, rfl, rfl, rfl⟩ rfl rfl rfl rfl rfl (by kernel_rfl) Try.func3 (by kernel_rfl)
    (of_decide_eq_true (by kernel_rfl)) (by unfold Func.isWrapper; first | (rw [if_pos (by decide +kernel)]; kernel_rfl) | (rw [if_neg (by decide +kernel)]; exact ⟨rfl, rfl⟩))
    (fun os started H enc _ => lifted os started H enc)
end Go.Proofs.Ytkpkkkmokgmhfaa.exprSays
