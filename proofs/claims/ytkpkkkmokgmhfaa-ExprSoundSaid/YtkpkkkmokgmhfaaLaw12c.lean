/- Whatever expression, kinds and row come in: ExprSound answers true: an expression that has a kind says something of that kind, or nothing, of each row that fits; it can only be too great. No condition. -/
import Derived.Test.YtkpkkkmokgmhfaaRows
import Derived.Test.YtkpkkkmokgmhfaaLaw
import Derived.Test.YtkpkkkmokgmhfaaExpAwake
import Derived.Test.YtkpkkkmokgmhfaaExpOpen
namespace Go.Proofs.Ytkpkkkmokgmhfaa.exprSound
open Go.ChangeShapes Go.WideShapes Go.ChangeAt Go.RowKit Go.ChangeMaps

theorem fits_may {row : List V3} {ks : List Int} (h : fitsB row ks = true) : ∀ v ∈ row, mayV v = true := by
  rw [fitsB, Bool.and_eq_true, List.all_eq_true] at h
  intro v hv
  obtain ⟨j, hj, rfl⟩ := List.getElem_of_mem hv
  have := h.2 j (List.mem_range.2 hj)
  rw [fit1, Bool.and_eq_true, List.getD_eq_getElem?_getD, List.getElem?_eq_getElem hj] at this
  exact this.1
/-- P12.6, of an expression that has a kind, and a row that fits -/
theorem sound_all {e : E6} {row : List V3} {ks : List Int} {t : Int} (ht : typeE e ks = (t, 0)) (hf : fitsB row ks = true) :
    mayV (evalE e row).1 = true ∧ (((evalE e row).2 = 0 ∧ ((evalE e row).1.k = 0 ∨ (evalE e row).1.k = t)) ∨ (evalE e row).2 = 20 ∧ (evalE e row).1 = v0) := by
  rw [typeE] at ht
  split at ht
  · rename_i ha
    split at ht
    · rename_i hc
      rw [evalE, if_pos ha]
      exact sound_of 20 ks row e t hf (amiss_zero ha).1 (amiss_zero ha).2 hc ht
    · injection ht with _ h; exact absurd h (by decide)
  · rename_i ha
    injection ht with _ h; exact absurd h ha
set_option maxRecDepth 100000 in
set_option maxHeartbeats 51200000 in
theorem walk (e : E6) (A D : Option Addr) (n c q f : Nat) (ks : List Int) (row : List V3) (w : World) (h : ReadsE w e) (hks : Rd w A n c (vals .i64 ks)) (hrow : RdV w D q f row) : Calls Try.prog 5 #[e.agg, .slice A n c, .slice D q f] w fun r w' => r = .returned (.bool true) ∧ Below w.heap.size w w' := by
  have HROW := Lib.hid hrow
  have HKS := Lib.hid hks
  have hle1 := hks.le; have hle3 := hrow.le
  clear hrow hks
  obtain ⟨w1, hw1⟩ : ∃ w1, w1 = (w.alloc (exprBox e)) := ⟨_, rfl⟩
  have HW := Lib.hid hw1
  have R0 : Hid (w1.heap[w.heap.size]? = some (exprBox e)) := by rw [hw1]; exact new_row _ _ rfl
  have HB : Hid (Below w.heap.size w w1) := by rw [hw1]; exact below_new (Below.refl _ _) _
  have SZ : Hid (w1.heap.size = w.heap.size + 1) := by show _ = _; rw [hw1]; simp only [World.size_alloc]
  obtain ⟨p0_0, p0_1, p0_2, p0_3, p0_4, p0_5⟩ := expr_row R0.out
  clear hw1
  have HR := Lib.hid h
  clear h
  go_enter Try.func5, Try.ntmps5
  go_upto_region 1 with fail
  rw [show (w.alloc (exprBox e)) = w1 from HW.out.symm]
  clear HW p0_0 p0_1 p0_2 p0_3 p0_4 p0_5
  go_wp2_with fail
  refine (awake12_any _).mono ?_
  rintro r2 w2 ⟨rfl, b2⟩
  have HB2 := Lib.hid (below_then HB.out b2)
  have RE2 := Lib.hid (row_below R0.out b2)
  clear b2 R0 HB SZ
  obtain ⟨p0_0, p0_1, p0_2, p0_3, p0_4, p0_5⟩ := expr_row RE2.out
  go_wp2_with fail
  refine (few_any e _ (HR.out.keep HB2.out)).mono ?_
  rintro r3 w3 ⟨fw, rfl, b3⟩
  have HB3 := Lib.hid (below_then HB2.out b3)
  have RE3 := Lib.hid (row_below RE2.out b3)
  clear b3 p0_0 p0_1 p0_2 p0_3 p0_4 p0_5 HB2 RE2
  cases fw with
  | false =>
    go_wp2_with fail
    go_ret
    exact ⟨rfl, HB3.out⟩
  | true =>
  by_cases g1 : 40 < (n : Int)
  · go_wp2_with fail
    go_ret
    exact ⟨rfl, HB3.out⟩
  by_cases g3 : 40 < (q : Int)
  · go_wp2_with fail
    go_ret
    exact ⟨rfl, HB3.out⟩
  go_wp2_with fail
  clear g1 g3
  go_loopw [9] (fun i wr => ∃ k : Nat, k ≤ n ∧ i = .int .i64 k ∧ Hid (wr.heap[w.heap.size]? = some (exprBox e)) ∧ Hid (Below w.heap.size w wr)) (fun i _ => n - (intOf i).toNat)
  case atStart => exact ⟨0, Nat.zero_le _, rfl, RE3, HB3⟩
  case round =>
    clear RE3 HB3
    obtain ⟨k, hk, rfl, RE3, HB3⟩ := hrel
    by_cases hlt : k < n
    · obtain ⟨b, o, u, rfl, hb, hu, hcu⟩ := (HKS.out.below HB3.out).at_ hlt
      obtain ⟨z, hz, rfl⟩ := vals_at hu
      have y1 : (k : Int) < (n : Int) := by omega
      have y0 : (0 : Int) ≤ (k : Int) := by omega
      clear hb hu hz
      by_cases h1 : z < 0
      · go_wp2_with fail
        go_ret
        exact ⟨rfl, HB3.out⟩
      by_cases h2 : 2 < z
      · go_wp2_with fail
        go_ret
        exact ⟨rfl, HB3.out⟩
      go_wp2_with fail
      exact ⟨⟨k + 1, by omega, by go_num, RE3, HB3⟩, by simp [intOf]; omega⟩
    · obtain rfl : k = n := by omega
      have y1 : ¬ (k : Int) < (k : Int) := by omega
      obtain ⟨y, hy⟩ : ∃ y, Hid (typeE e ks = y) := ⟨_, rfl⟩
      obtain ⟨t, ht⟩ : ∃ t, Hid (fitsB row ks = t) := ⟨_, rfl⟩
      obtain ⟨v, hv⟩ : ∃ v, Hid (evalE e row = v) := ⟨_, rfl⟩
      have CE : Hid (∀ W, Below w.heap.size w W → Calls Try.prog 17 #[.agg #[.int .i64 e.k, .int .i64 e.n, .int .i64 e.v.k, .int .i64 e.v.n, .string e.v.s, .slice e.a e.m e.c], .slice A k c] W fun r w' => r = .returned (.tuple #[.int .i64 y.1, .int .i64 y.2]) ∧ Below W.heap.size W w') := fun W hW => by rw [← hy.out]; exact type_any e A k c ks W (HR.out.keep hW) (HKS.out.below hW)
      have C3 : Hid (∀ W, Below w.heap.size w W → Calls Try.prog 21 #[.slice D q f, .slice A k c] W fun r w' => r = .returned (.bool t) ∧ Below W.heap.size W w') := fun W hW => by rw [← ht.out]; exact fits_any D A q f k c row ks W (HROW.out.below hW) (HKS.out.below hW)
      have CV : Hid (t = true → ∀ W, Below w.heap.size w W → Calls Try.prog 11 #[.agg #[.int .i64 e.k, .int .i64 e.n, .int .i64 e.v.k, .int .i64 e.v.n, .string e.v.s, .slice e.a e.m e.c], .slice D q f] W fun r w' => r = .returned (.tuple #[.agg #[.int .i64 v.1.k, .int .i64 v.1.n, .string v.1.s], .int .i64 v.2]) ∧ Below W.heap.size W w') := by
        show t = true → _
        intro h W hW
        rw [← hv.out]; exact eval_any e D q f row W (HR.out.keep hW) (HROW.out.below hW) (fits_may (ht.out.trans h))
      have HS : Hid (y.2 = 0 → t = true → mayV v.1 = true ∧ ((v.2 = 0 ∧ (v.1.k = 0 ∨ v.1.k = y.1)) ∨ v.2 = 20 ∧ v.1 = v0)) := by
        show y.2 = 0 → t = true → _
        intro h1 h2
        rw [← hv.out]
        exact sound_all (t := y.1) (by rw [hy.out, ← h1]) (ht.out.trans h2)
      obtain ⟨yk, ye⟩ := y
      obtain ⟨vv, ve⟩ := v
      dsimp only at CE CV HS
      clear hy ht hv
      obtain ⟨p0_0, p0_1, p0_2, p0_3, p0_4, p0_5⟩ := expr_row RE3.out
      have C := Lib.hid (CE.out _ HB3.out)
      go_wp2_with fail
      refine C.out.mono ?_
      rintro r5 w5 ⟨rfl, b5⟩
      have HB5 := Lib.hid (below_then HB3.out b5)
      have RE5 := Lib.hid (row_below RE3.out b5)
      clear b5 C p0_0 p0_1 p0_2 p0_3 p0_4 p0_5 HB3 RE3
      by_cases h0 : ye = 0
      rotate_left
      · have q0 := beq_no h0
        have q1 : (ye != 0) = true := by simp [bne, q0]
        clear h0
        go_wp2_with fail
        go_ret
        exact ⟨rfl, HB5.out⟩
      subst h0
      go_wp2_with fail
      refine (C3.out _ HB5.out).mono ?_
      rintro r6 w6 ⟨rfl, b6⟩
      have HB6 := Lib.hid (below_then HB5.out b6)
      have RE6 := Lib.hid (row_below RE5.out b6)
      clear b6 C3 HB5 RE5
      cases t with
      | false =>
        go_wp2_with fail
        go_ret
        exact ⟨rfl, HB6.out⟩
      | true =>
      have CV2 := Lib.hid (CV.out rfl)
      obtain ⟨hmv, hso⟩ := HS.out (by trivial) (by trivial)
      have HMV := Lib.hid hmv
      clear CV HS hmv
      obtain ⟨p0_0, p0_1, p0_2, p0_3, p0_4, p0_5⟩ := expr_row RE6.out
      have C := Lib.hid (CV2.out _ HB6.out)
      go_wp2_with fail
      refine C.out.mono ?_
      rintro r7 w7 ⟨rfl, b7⟩
      have HB7 := Lib.hid (below_then HB6.out b7)
      have RE7 := Lib.hid (row_below RE6.out b7)
      clear b7 C p0_0 p0_1 p0_2 p0_3 p0_4 p0_5 HB6 RE6
      obtain ⟨w8, hw8⟩ : ∃ V, V = w7.alloc (valBox vv) := ⟨_, rfl⟩
      have HW8 := Lib.hid hw8
      have b8 : Below w7.heap.size w7 w8 := by rw [hw8]; exact below_new (Below.refl _ _) _
      have RA : Hid (w8.heap[w7.heap.size]? = some (valBox vv)) := by rw [hw8]; exact heap_alloc_new _ _
      have HB8 := Lib.hid (below_then HB7.out b8)
      have RE8 := Lib.hid (row_below RE7.out b8)
      clear b8 hw8 HB7 RE7
      go_upto_region 14 with fail
      rw [show w7.alloc (valBox vv) = w8 from HW8.out.symm]
      clear HW8
      generalize w7.heap.size = gRA at RA ⊢
      obtain ⟨a0, a1, a2⟩ := valB_row RA.out
      have EQ := fun W => run_eqV vv v0 W
      rcases hso with ⟨rfl, hk2⟩ | ⟨rfl, hv0⟩
      · obtain ⟨eq, heq⟩ : ∃ z, Hid (decide (vv = v0) = z) := ⟨_, rfl⟩
        rw [heq.out] at EQ
        have hkk : Hid (eq = false → (vv.k == yk) = true) := by
          show eq = false → _
          intro h
          refine beq_yes (hk2.resolve_left fun h0 => ?_)
          rw [← heq.out] at h
          exact of_decide_eq_false h (may_null HMV.out h0)
        have hfit : Hid (fitsB [vv] [yk] = true) := by
          show _ = _
          have h1 : fit1 vv yk = true := by
            rw [fit1, HMV.out]
            rcases hk2 with h | h <;> simp [h]
          simp [fitsB, h1]
        obtain ⟨wt, hwt⟩ : ∃ V, V = (w8.alloc (valBox vv)).alloc (.cells #[.int .i64 yk] 3) := ⟨_, rfl⟩
        have bt : Below w8.heap.size w8 wt := by rw [hwt]; exact below_new (below_new (Below.refl _ _) _) _
        have RDV : RdV wt (some ⟨w8.heap.size, 0, none⟩) 1 1 [vv] := by rw [hwt]; exact rdV_one (old_row _ (heap_alloc_new _ _))
        have RDI : Rd wt (some ⟨w8.heap.size + 1, 0, none⟩) 1 1 (vals .i64 [yk]) := by rw [hwt]; exact rdI_one (new_row _ _ (by simp only [World.size_alloc]))
        have CT := Lib.hid (fits_any _ _ 1 1 1 1 [vv] [yk] wt RDV RDI)
        rw [hfit.out] at CT
        have HBF := Lib.hid (below_then HB8.out bt)
        rw [hwt] at CT HBF
        clear hwt bt RDV RDI hk2 heq
        cases eq with
        | true =>
          go_wp2_with fail
          refine CT.out.mono ?_
          rintro r9 w9 ⟨rfl, b9⟩
          have HB9 := Lib.hid (below_then HBF.out b9)
          clear b9 CT
          go_wp2_with fail
          go_ret
          exact ⟨rfl, HB9.out⟩
        | false =>
          have e1 := hkk.out rfl
          go_wp2_with fail
          refine CT.out.mono ?_
          rintro r9 w9 ⟨rfl, b9⟩
          have HB9 := Lib.hid (below_then HBF.out b9)
          clear b9 CT
          go_wp2_with fail
          go_ret
          exact ⟨rfl, HB9.out⟩
      · rw [decide_eq_true hv0] at EQ
        clear hv0
        go_wp2_with fail
        go_ret
        exact ⟨rfl, HB8.out⟩

set_option maxRecDepth 100000 in
theorem contract (H : Type) (enc : TypeId × Value → H) (W : World) (base : Nat) (args : Array Value) (ds gs : List (DataW H)) (before : List MemPlace)
    (hval : ∀ (j : Nat) t v, Try.f5.params[j]? = some t → args[j]? = some v → Value.okWide Try.prog W .any base t v)
    (hW : DataW.Whole enc Try.prog Try.f5.params.toList Rows.exprSoundSpec.vars false W args.toList ds gs before) :
    Calls Try.prog 5 args W fun e W' => ∃ v, e = .returned v ∧ Rows.exprSoundSpec.post enc Try.prog Try.f5 false true false false W args v W' := by
  have hlt : ∀ x ∈ before, x.block < W.heap.size := fun x hx => by simpa using hW.lt x hx
  refine law_step 4 Try.laid_ (by kernel_rfl) rfl Try.underlying4 rfl hW (fun xs hx => ?_) ?_
  · match xs, hx with
    | [d0, d1, d2], _ => rfl
  · obtain ⟨p, q, hA0, hV, rfl, _, _⟩ := hW
    have hA : DataW.TrodAll enc Try.prog W 0 (fun _ => true) true Try.f5.params.toList args.toList ds p := hA0
    rw [Try.params5] at hA hval
    obtain ⟨v0, vs0, d0, ds0, p0, q0, e0, rfl, rfl, h0, r0⟩ := trodAll_cons hA
    obtain ⟨v1, vs1, d1, ds1, p1, q1, e1, rfl, rfl, h1, r1⟩ := trodAll_cons r0
    obtain ⟨v2, vs2, d2, ds2, p2, q2, e2, rfl, rfl, h2, r2⟩ := trodAll_cons r1
    obtain ⟨rfl, rfl, rfl⟩ := trodAll_nil r2
    subst e2
    subst e1
    obtain rfl : args = #[v0, v1, v2] := by cases args; simp_all
    clear e0 hA0
    obtain ⟨e0, rfl, rd0⟩ := open_expr (hval 0 26 v0 rfl rfl) h0
    obtain ⟨A1, n1, c1, l1, rfl, rd1, wf1⟩ := open_sl (k := .i64) Try.underlying39 Try.underlying3 (by kernel_rfl) (hval 1 39 v1 rfl rfl) h1 (fun x hx => hlt x (by simp [hx]))
    obtain ⟨A2, n2, c2, l2, rfl, rd2, wf2⟩ := open_row (hval 2 28 v2 rfl rfl) h2
    exact walk e0 A1 A2 n1 c1 n2 c2 l1 l2 W rd0 rd1 rd2

set_option maxRecDepth 100000 in
theorem lifted (os : Os) (started : os.Started) (H : Type) (enc : TypeId × Value → H) :
    ReturnsInHanded {} Try.checked os 5 .any (Rows.exprSoundSpec.pre6 enc Try.prog Try.f5 Rows.exprSoundRow.domain false) (Rows.exprSoundSpec.post enc Try.prog Try.f5 false true false false) := by
  refine returnsInHanded_of_change (C := Try.checked) Try.own_ started (by kernel_rfl) Try.func5
    (ChangeSpec.witness6 (enc := enc) (C := Try.checked) false ⟨#[], #[.agg #[.int .i64 0, .int .i64 0, .int .i64 0, .int .i64 0, .string ⟨#[]⟩, .slice none 0 0], .slice none 0 0, .slice none 0 0], []⟩ 8 (by kernel_rfl) (by kernel_rfl) (by kernel_rfl) (by kernel_rfl)) ?_
  intro W base args ds gs before hval hW _ _
  exact contract H enc W base args ds gs before hval hW

theorem holds : Rows.ExprSoundSaid :=
  OpenClaim.holds_of_wide 5 Try.f5 rfl rfl rfl rfl rfl rfl rfl ⟨rfl, rfl, rfl, rfl, rfl⟩ rfl rfl rfl rfl rfl (by kernel_rfl) Try.func5 (by kernel_rfl)
    (of_decide_eq_true (by kernel_rfl)) (by unfold Func.isWrapper; first | (rw [if_pos (by decide +kernel)]; kernel_rfl) | (rw [if_neg (by decide +kernel)]; exact ⟨rfl, rfl⟩))
    (fun os started H enc _ => lifted os started H enc)
end Go.Proofs.Ytkpkkkmokgmhfaa.exprSound
