/- Whatever expression, kinds, columns and row come in: ExprTypes answers true: the kind of an expression, whether it may be asked of columns, what a column shows, and whether a row fits kinds, is as the document says. No condition. -/
import Derived.Test.YtkpkkkmokgmhfaaRows
import Derived.Test.YtkpkkkmokgmhfaaLaw
import Derived.Test.YtkpkkkmokgmhfaaExpAwake
import Derived.Test.YtkpkkkmokgmhfaaExpOpen
namespace Go.Proofs.Ytkpkkkmokgmhfaa.exprTypes
open Go.ChangeShapes Go.WideShapes Go.ChangeAt Go.RowKit Go.ChangeMaps

set_option maxRecDepth 100000 in
set_option maxHeartbeats 51200000 in
theorem walk (e : E6) (A B D : Option Addr) (n c m d q f : Nat) (ks : List Int) (cs : List C4) (row : List V3) (w : World) (h : ReadsE w e) (hks : Rd w A n c (vals .i64 ks)) (hcs : RdC w B m d cs) (hrow : RdV w D q f row) : Calls Try.prog 4 #[e.agg, .slice A n c, .slice B m d, .slice D q f] w fun r w' => r = .returned (.bool true) ∧ Below w.heap.size w w' := by
  have HROW := Lib.hid hrow
  have HKS := Lib.hid hks
  have HCS := Lib.hid hcs
  have hle1 := hks.le; have hle2 := hcs.le; have hle3 := hrow.le
  clear hrow hks hcs
  obtain ⟨w1, hw1⟩ : ∃ w1, w1 = (w.alloc (exprBox e)) := ⟨_, rfl⟩
  have HW := Lib.hid hw1
  have R0 : Hid (w1.heap[w.heap.size]? = some (exprBox e)) := by rw [hw1]; exact new_row _ _ rfl
  have HB : Hid (Below w.heap.size w w1) := by rw [hw1]; exact below_new (Below.refl _ _) _
  have SZ : Hid (w1.heap.size = w.heap.size + 1) := by show _ = _; rw [hw1]; simp only [World.size_alloc]
  obtain ⟨p0_0, p0_1, p0_2, p0_3, p0_4, p0_5⟩ := expr_row R0.out
  clear hw1
  have HR := Lib.hid h
  clear h
  go_enter Try.func4, Try.ntmps4
  go_upto_region 1 with fail
  rw [show (w.alloc (exprBox e)) = w1 from HW.out.symm]
  clear HW p0_0 p0_1 p0_2 p0_3 p0_4 p0_5
  go_wp2_with fail
  refine (awake12_any _).mono ?_
  rintro r2 w2 ⟨rfl, b2⟩
  have HB2 := Lib.hid (below_then HB.out b2)
  have RE2 := Lib.hid (row_below R0.out b2)
  clear b2 R0 HB SZ
  obtain ⟨p0_0, p0_1, p0_2, p0_3, p0_4, p0_5⟩ := expr_row RE2.out
  go_wp2_with fail
  refine (few_any e _ (HR.out.keep HB2.out)).mono ?_
  rintro r3 w3 ⟨fw, rfl, b3⟩
  have HB3 := Lib.hid (below_then HB2.out b3)
  have RE3 := Lib.hid (row_below RE2.out b3)
  clear b3 p0_0 p0_1 p0_2 p0_3 p0_4 p0_5 HB2 RE2
  cases fw with
  | false =>
    go_wp2_with fail
    go_ret
    exact ⟨rfl, HB3.out⟩
  | true =>
  by_cases g1 : 40 < (n : Int)
  · go_wp2_with fail
    go_ret
    exact ⟨rfl, HB3.out⟩
  by_cases g2 : 40 < (m : Int)
  · go_wp2_with fail
    go_ret
    exact ⟨rfl, HB3.out⟩
  by_cases g3 : 40 < (q : Int)
  · go_wp2_with fail
    go_ret
    exact ⟨rfl, HB3.out⟩
  have HM40 : Hid (m ≤ 4294967296) := by show _ ≤ _; omega
  go_wp2_with fail
  clear g1 g2 g3
  go_loopw [11] (fun i wr => ∃ k : Nat, k ≤ n ∧ i = .int .i64 k ∧ Hid (wr.heap[w.heap.size]? = some (exprBox e)) ∧ Hid (Below w.heap.size w wr)) (fun i _ => n - (intOf i).toNat)
  case atStart => exact ⟨0, Nat.zero_le _, rfl, RE3, HB3⟩
  case round =>
    clear RE3 HB3
    obtain ⟨k, hk, rfl, RE3, HB3⟩ := hrel
    by_cases hlt : k < n
    · obtain ⟨b, o, u, rfl, hb, hu, hcu⟩ := (HKS.out.below HB3.out).at_ hlt
      obtain ⟨z, hz, rfl⟩ := vals_at hu
      have y1 : (k : Int) < (n : Int) := by omega
      have y0 : (0 : Int) ≤ (k : Int) := by omega
      clear hb hu hz
      by_cases h1 : z < 0
      · go_wp2_with fail
        go_ret
        exact ⟨rfl, HB3.out⟩
      by_cases h2 : 2 < z
      · go_wp2_with fail
        go_ret
        exact ⟨rfl, HB3.out⟩
      go_wp2_with fail
      exact ⟨⟨k + 1, by omega, by go_num, RE3, HB3⟩, by simp [intOf]; omega⟩
    · obtain rfl : k = n := by omega
      have y1 : ¬ (k : Int) < (k : Int) := by omega
      go_wp2_with fail
      go_loopw [12] (fun i wr => ∃ j : Nat, j ≤ m ∧ i = .int .i64 j ∧ Hid (wr.heap[w.heap.size]? = some (exprBox e)) ∧ Hid (Below w.heap.size w wr)) (fun i _ => m - (intOf i).toNat)
      case atStart => exact ⟨0, Nat.zero_le _, rfl, RE3, HB3⟩
      case round =>
        clear RE3 HB3
        obtain ⟨j, hj, rfl, RE3, HB3⟩ := hrel
        by_cases hlt2 : j < m
        · obtain ⟨b, o, x, rfl, hb, hx, hld⟩ := HCS.out.col hlt2
          obtain ⟨d0, d1, d2, d3⟩ := hld wr HB3.out
          have y3 : (j : Int) < (m : Int) := by omega
          have y4 : (0 : Int) ≤ (j : Int) := by omega
          clear hld hb hx
          by_cases h1 : x.t < 0
          · go_wp2_with fail
            go_ret
            exact ⟨rfl, HB3.out⟩
          by_cases h2 : 2 < x.t
          · go_wp2_with fail
            go_ret
            exact ⟨rfl, HB3.out⟩
          obtain ⟨s, hs⟩ : ∃ s, Hid (shownC x = s) := ⟨_, rfl⟩
          have C1 : Hid (∀ W, Calls Try.prog 15 #[.agg #[.string x.nm, .int .i64 x.k, .int .i64 x.t, .bool x.z]] W fun e w' => e = .returned (.int .i64 s) ∧ Below W.heap.size W w') := fun W => by rw [← hs.out]; exact shown_any x W
          have C2 : Hid (∀ W, Calls Try.prog 16 #[.agg #[.string x.nm, .int .i64 x.k, .int .i64 x.t, .bool x.z]] W fun e w' => e = .returned (.int .i64 s) ∧ Below W.heap.size W w') := fun W => by rw [← hs.out]; exact refShown_any x W
          have k0 : ∀ p : BelowOf wr, p.W.cell? ⟨b, o + j * 4, none⟩ = some (.string x.nm) := fun p => p.cell d0
          have k1 : ∀ p : BelowOf wr, p.W.cell? ⟨b, o + j * 4 + 1, none⟩ = some (.int .i64 x.k) := fun p => p.cell d1
          have k2 : ∀ p : BelowOf wr, p.W.cell? ⟨b, o + j * 4 + 2, none⟩ = some (.int .i64 x.t) := fun p => p.cell d2
          have k3 : ∀ p : BelowOf wr, p.W.cell? ⟨b, o + j * 4 + 3, none⟩ = some (.bool x.z) := fun p => p.cell d3
          have e0 : (s != s) = false := by simp
          clear hs
          go_upto_region 15 with fail
          clear h1 h2 d0 d1 d2 d3
          refine wp_region_quiet_below (by kernel_rfl) (by kernel_rfl) ?_
          repeat (first | (with_reducible refine wpQuiet_step (fun K hK => ?_); go_simp; first | (with_reducible refine hK _ ?_; clear hK K) | (apply Exists.intro; with_reducible refine ⟨fun _ => ?_, hK _ ?_⟩; (first | (go_at_call 15; exact Calls.quiet_below (C1.out _)) | (go_at_call 16; exact Calls.quiet_below (C2.out _))); clear hK K)) | (with_reducible refine wpQuiet_pass (by kernel_rfl) ?_; (try simp only [Act.put, List.setIfInBounds_toArray, List.set_cons_zero, List.set_cons_succ])))
          with_reducible refine wpQuiet_nil ?_
          rintro wq ⟨⟨_, hq⟩, rfl⟩
          have HB4 := Lib.hid (below_then HB3.out hq)
          have RE4 := Lib.hid (row_below RE3.out hq)
          clear k0 k1 k2 k3 hq C1 C2
          go_wp2_with fail
          exact ⟨⟨j + 1, by omega, by go_num, RE4, HB4⟩, by simp [intOf]; omega⟩
        · obtain rfl : j = m := by omega
          have y3 : ¬ (j : Int) < (j : Int) := by omega
          obtain ⟨y, hy⟩ : ∃ y, Hid (typeE e ks = y) := ⟨_, rfl⟩
          obtain ⟨s, hs⟩ : ∃ s, Hid (rightE12 (typeE e (cs.map shownC)) = s) := ⟨_, rfl⟩
          obtain ⟨t, ht⟩ : ∃ t, Hid (fitsB row ks = t) := ⟨_, rfl⟩
          have CE : Hid (∀ W, Below w.heap.size w W → Calls Try.prog 17 #[.agg #[.int .i64 e.k, .int .i64 e.n, .int .i64 e.v.k, .int .i64 e.v.n, .string e.v.s, .slice e.a e.m e.c], .slice A k c] W fun r w' => r = .returned (.tuple #[.int .i64 y.1, .int .i64 y.2]) ∧ Below W.heap.size W w') := fun W hW => by rw [← hy.out]; exact type_any e A k c ks W (HR.out.keep hW) (HKS.out.below hW)
          have CF : Hid (∀ W, Below w.heap.size w W → Calls Try.prog 18 #[.agg #[.int .i64 e.k, .int .i64 e.n, .int .i64 e.v.k, .int .i64 e.v.n, .string e.v.s, .slice e.a e.m e.c], .slice A k c] W fun r w' => r = .returned (.tuple #[.int .i64 y.1, .int .i64 y.2]) ∧ Below W.heap.size W w') := fun W hW => by rw [← hy.out]; exact refType_any e A k c ks W (HR.out.keep hW) (HKS.out.below hW)
          have C1 : Hid (∀ W, Below w.heap.size w W → Calls Try.prog 19 #[.agg #[.int .i64 e.k, .int .i64 e.n, .int .i64 e.v.k, .int .i64 e.v.n, .string e.v.s, .slice e.a e.m e.c], .slice B j d] W fun r w' => r = .returned (.int .i64 s) ∧ Below W.heap.size W w') := fun W hW => by rw [← hs.out]; exact right12_any e B j d cs W (HR.out.keep hW) (HCS.out.below hW) HM40.out
          have C2 : Hid (∀ W, Below w.heap.size w W → Calls Try.prog 20 #[.agg #[.int .i64 e.k, .int .i64 e.n, .int .i64 e.v.k, .int .i64 e.v.n, .string e.v.s, .slice e.a e.m e.c], .slice B j d] W fun r w' => r = .returned (.int .i64 s) ∧ Below W.heap.size W w') := fun W hW => by rw [← hs.out]; exact refRight12_any e B j d cs W (HR.out.keep hW) (HCS.out.below hW) HM40.out
          have C3 : Hid (∀ W, Below w.heap.size w W → Calls Try.prog 21 #[.slice D q f, .slice A k c] W fun r w' => r = .returned (.bool t) ∧ Below W.heap.size W w') := fun W hW => by rw [← ht.out]; exact fits_any D A q f k c row ks W (HROW.out.below hW) (HKS.out.below hW)
          have C4 : Hid (∀ W, Below w.heap.size w W → Calls Try.prog 22 #[.slice D q f, .slice A k c] W fun r w' => r = .returned (.bool t) ∧ Below W.heap.size W w') := fun W hW => by rw [← ht.out]; exact refFits_any D A q f k c row ks W (HROW.out.below hW) (HKS.out.below hW)
          obtain ⟨yk, ye⟩ := y
          dsimp only at CE CF
          clear hy hs ht
          obtain ⟨p0_0, p0_1, p0_2, p0_3, p0_4, p0_5⟩ := expr_row RE3.out
          have C := Lib.hid (CE.out _ HB3.out)
          go_wp2_with fail
          refine C.out.mono ?_
          rintro r5 w5 ⟨rfl, b5⟩
          have HB5 := Lib.hid (below_then HB3.out b5)
          have RE5 := Lib.hid (row_below RE3.out b5)
          clear b5 C p0_0 p0_1 p0_2 p0_3 p0_4 p0_5 HB3 RE3
          obtain ⟨p0_0, p0_1, p0_2, p0_3, p0_4, p0_5⟩ := expr_row RE5.out
          have C := Lib.hid (CF.out _ HB5.out)
          go_wp2_with fail
          refine C.out.mono ?_
          rintro r7 w7 ⟨rfl, b7⟩
          have HB7 := Lib.hid (below_then HB5.out b7)
          have RE7 := Lib.hid (row_below RE5.out b7)
          clear b7 C p0_0 p0_1 p0_2 p0_3 p0_4 p0_5 HB5 RE5
          have e1 : (yk == yk) = true := by simp
          have e2 : (ye == ye) = true := by simp
          have e3 : (s == s) = true := by simp
          have e4 : (t == t) = true := by simp
          go_upto_region 19 with fail
          have k0 : ∀ p : BelowOf w7, p.W.cell? ⟨w.heap.size, 0, none⟩ = some (.int .i64 e.k) := fun p => p.cell (cell_row RE7.out 0)
          have k1 : ∀ p : BelowOf w7, p.W.cell? ⟨w.heap.size, 1, none⟩ = some (.int .i64 e.n) := fun p => p.cell (cell_row RE7.out 1)
          have k2 : ∀ p : BelowOf w7, p.W.cell? ⟨w.heap.size, 2, none⟩ = some (.int .i64 e.v.k) := fun p => p.cell (cell_row RE7.out 2)
          have k3 : ∀ p : BelowOf w7, p.W.cell? ⟨w.heap.size, 3, none⟩ = some (.int .i64 e.v.n) := fun p => p.cell (cell_row RE7.out 3)
          have k4 : ∀ p : BelowOf w7, p.W.cell? ⟨w.heap.size, 4, none⟩ = some (.string e.v.s) := fun p => p.cell (cell_row RE7.out 4)
          have k5 : ∀ p : BelowOf w7, p.W.cell? ⟨w.heap.size, 5, none⟩ = some (.slice e.a e.m e.c) := fun p => p.cell (cell_row RE7.out 5)
          refine wp_region_quiet_below (by kernel_rfl) (by kernel_rfl) ?_
          repeat (first | (with_reducible refine wpQuiet_step (fun K hK => ?_); go_simp; first | (with_reducible refine hK _ ?_; clear hK K) | (apply Exists.intro; with_reducible refine ⟨fun _ => ?_, hK _ ?_⟩; (first | (go_at_call 19; exact Calls.quiet_below (C1.out _ (below_then HB7.out (BelowOf.h _)))) | (go_at_call 20; exact Calls.quiet_below (C2.out _ (below_then HB7.out (BelowOf.h _)))) | (go_at_call 21; exact Calls.quiet_below (C3.out _ (below_then HB7.out (BelowOf.h _)))) | (go_at_call 22; exact Calls.quiet_below (C4.out _ (below_then HB7.out (BelowOf.h _))))); clear hK K)) | (with_reducible refine wpQuiet_pass (by kernel_rfl) ?_; (try simp only [Act.put, List.setIfInBounds_toArray, List.set_cons_zero, List.set_cons_succ])))
          with_reducible refine wpQuiet_nil ?_
          rintro wq ⟨⟨_, hq⟩, rfl⟩
          have HB8 := Lib.hid (below_then HB7.out hq)
          go_wp2_with fail
          go_ret
          exact ⟨by simp, HB8.out⟩

set_option maxRecDepth 100000 in
theorem contract (H : Type) (enc : TypeId × Value → H) (W : World) (base : Nat) (args : Array Value) (ds gs : List (DataW H)) (before : List MemPlace)
    (hval : ∀ (j : Nat) t v, Try.f4.params[j]? = some t → args[j]? = some v → Value.okWide Try.prog W .any base t v)
    (hW : DataW.Whole enc Try.prog Try.f4.params.toList Rows.exprTypesSpec.vars false W args.toList ds gs before) :
    Calls Try.prog 4 args W fun e W' => ∃ v, e = .returned v ∧ Rows.exprTypesSpec.post enc Try.prog Try.f4 false true false false W args v W' := by
  have hlt : ∀ x ∈ before, x.block < W.heap.size := fun x hx => by simpa using hW.lt x hx
  refine law_step 4 Try.laid_ (by kernel_rfl) rfl Try.underlying4 rfl hW (fun xs hx => ?_) ?_
  · match xs, hx with
    | [d0, d1, d2, d3], _ => rfl
  · obtain ⟨p, q, hA0, hV, rfl, _, _⟩ := hW
    have hA : DataW.TrodAll enc Try.prog W 0 (fun _ => true) true Try.f4.params.toList args.toList ds p := hA0
    rw [Try.params4] at hA hval
    obtain ⟨v0, vs0, d0, ds0, p0, q0, e0, rfl, rfl, h0, r0⟩ := trodAll_cons hA
    obtain ⟨v1, vs1, d1, ds1, p1, q1, e1, rfl, rfl, h1, r1⟩ := trodAll_cons r0
    obtain ⟨v2, vs2, d2, ds2, p2, q2, e2, rfl, rfl, h2, r2⟩ := trodAll_cons r1
    obtain ⟨v3, vs3, d3, ds3, p3, q3, e3, rfl, rfl, h3, r3⟩ := trodAll_cons r2
    obtain ⟨rfl, rfl, rfl⟩ := trodAll_nil r3
    subst e3
    subst e2
    subst e1
    obtain rfl : args = #[v0, v1, v2, v3] := by cases args; simp_all
    clear e0 hA0
    obtain ⟨e0, rfl, rd0⟩ := open_expr (hval 0 26 v0 rfl rfl) h0
    obtain ⟨A1, n1, c1, l1, rfl, rd1, wf1⟩ := open_sl (k := .i64) Try.underlying39 Try.underlying3 (by kernel_rfl) (hval 1 39 v1 rfl rfl) h1 (fun x hx => hlt x (by simp [hx]))
    obtain ⟨A2, n2, c2, l2, rfl, rd2⟩ := open_cols (hval 2 40 v2 rfl rfl) h2
    obtain ⟨A3, n3, c3, l3, rfl, rd3, wf3⟩ := open_row (hval 3 28 v3 rfl rfl) h3
    exact walk e0 A1 A2 A3 n1 c1 n2 c2 n3 c3 l1 l2 l3 W rd0 rd1 rd2 rd3

set_option maxRecDepth 100000 in
theorem lifted (os : Os) (started : os.Started) (H : Type) (enc : TypeId × Value → H) :
    ReturnsInHanded {} Try.checked os 4 .any (Rows.exprTypesSpec.pre6 enc Try.prog Try.f4 Rows.exprTypesRow.domain false) (Rows.exprTypesSpec.post enc Try.prog Try.f4 false true false false) := by
  refine returnsInHanded_of_change (C := Try.checked) Try.own_ started (by kernel_rfl) Try.func4
    (ChangeSpec.witness6 (enc := enc) (C := Try.checked) false ⟨#[], #[.agg #[.int .i64 0, .int .i64 0, .int .i64 0, .int .i64 0, .string ⟨#[]⟩, .slice none 0 0], .slice none 0 0, .slice none 0 0, .slice none 0 0], []⟩ 8 (by kernel_rfl) (by kernel_rfl) (by kernel_rfl) (by kernel_rfl)) ?_
  intro W base args ds gs before hval hW _ _
  exact contract H enc W base args ds gs before hval hW

theorem holds : Rows.ExprTypesSaid :=
  OpenClaim.holds_of_wide 4 Try.f4 rfl rfl rfl rfl rfl rfl rfl ⟨rfl, rfl, rfl, rfl, rfl⟩ rfl rfl rfl rfl rfl (by kernel_rfl) Try.func4 (by kernel_rfl)
    (of_decide_eq_true (by kernel_rfl)) (by unfold Func.isWrapper; first | (rw [if_pos (by decide +kernel)]; kernel_rfl) | (rw [if_neg (by decide +kernel)]; exact ⟨rfl, rfl⟩))
    (fun os started H enc _ => lifted os started H enc)
end Go.Proofs.Ytkpkkkmokgmhfaa.exprTypes
