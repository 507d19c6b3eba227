/- Whatever three stamps come in: ClockTotal answers true: of two unlike stamps just one is ahead, of two that are alike none; what is ahead of what is ahead is ahead. No condition. -/
import Derived.Test.YthhacniljipegaaRows
import Derived.Test.YthhacniljipegaaLaw
import Derived.Test.YthhacniljipegaaClkAwake
import Derived.Test.YthhacniljipegaaClkOpen
namespace Go.Proofs.Ythhacniljipegaa.clockTotal
open Go.ChangeShapes Go.WideShapes Go.ChangeAt Go.RowKit Go.ChangeMaps

theorem s3_same (a b : S3) : (lessS a b || lessS b a) = !decide (a = b) := by
  have h1 := lessS_iff a b; have h2 := lessS_iff b a
  by_cases h : a = b
  · subst h; simp [lessS_weak.irr]
  · have : lessS a b = true ∨ lessS b a = true := by
      rw [h1, h2]
      by_cases ht : a.t = b.t
      · by_cases hd : a.d = b.d
        · by_cases hq : a.q = b.q
          · exact absurd (s3_ext ht hd hq) h
          · omega
        · omega
      · omega
    simp only [h, decide_false, Bool.not_false]
    rcases this with h | h <;> simp [h]

set_option maxHeartbeats 6400000 in
theorem walk (a b c : S3) (w : World) :
    Calls Try.prog 5 #[a.agg, b.agg, c.agg] w fun e w' => e = .returned (.bool true) ∧ Below w.heap.size w w' := by
  obtain ⟨x, LX, hx⟩ : ∃ z : Bool, Hid (∀ W, Calls Try.prog 12 #[.agg #[.int .i64 a.t, .int .i64 a.d, .int .i64 a.q], .agg #[.int .i64 b.t, .int .i64 b.d, .int .i64 b.q]] W fun e w' => e = .returned (.bool z) ∧ Below W.heap.size W w') ∧ lessS a b = z := ⟨_, Lib.hid fun W => clkLess_any a b W, rfl⟩
  obtain ⟨y, LY, hy⟩ : ∃ z : Bool, Hid (∀ W, Calls Try.prog 12 #[.agg #[.int .i64 b.t, .int .i64 b.d, .int .i64 b.q], .agg #[.int .i64 a.t, .int .i64 a.d, .int .i64 a.q]] W fun e w' => e = .returned (.bool z) ∧ Below W.heap.size W w') ∧ lessS b a = z := ⟨_, Lib.hid fun W => clkLess_any b a W, rfl⟩
  obtain ⟨z, LZ, hz⟩ : ∃ z : Bool, Hid (∀ W, Calls Try.prog 12 #[.agg #[.int .i64 b.t, .int .i64 b.d, .int .i64 b.q], .agg #[.int .i64 c.t, .int .i64 c.d, .int .i64 c.q]] W fun e w' => e = .returned (.bool z) ∧ Below W.heap.size W w') ∧ lessS b c = z := ⟨_, Lib.hid fun W => clkLess_any b c W, rfl⟩
  obtain ⟨u, LU, hu⟩ : ∃ z : Bool, Hid (∀ W, Calls Try.prog 12 #[.agg #[.int .i64 a.t, .int .i64 a.d, .int .i64 a.q], .agg #[.int .i64 c.t, .int .i64 c.d, .int .i64 c.q]] W fun e w' => e = .returned (.bool z) ∧ Below W.heap.size W w') ∧ lessS a c = z := ⟨_, Lib.hid fun W => clkLess_any a c W, rfl⟩
  have LV : Hid (∀ W, Calls Try.prog 12 #[.agg #[.int .i64 a.t, .int .i64 a.d, .int .i64 a.q], .agg #[.int .i64 a.t, .int .i64 a.d, .int .i64 a.q]] W fun e w' => e = .returned (.bool false) ∧ Below W.heap.size W w') := by
    intro W
    have := clkLess_any a a W
    rwa [lessS_weak.irr] at this
  obtain ⟨s, hs, hne⟩ : ∃ s : Bool, decide (a = b) = s ∧ Hid ((x || y) = !s) := ⟨_, rfl, by have := s3_same a b; rw [hx, hy] at this; exact this⟩
  have HXY : Hid (x = true → y = false) := fun h => by rw [← hy]; exact lessS_weak.asym (by rw [hx]; exact h)
  have HTR : Hid (x = true → z = true → u = true) := fun h1 h2 => by rw [← hu]; exact lessS_weak.trans _ _ _ (by rw [hx]; exact h1) (by rw [hz]; exact h2)
  have EQ : Hid (∀ W, (Op.equalIn 10000 23 (.agg #[.int .i64 a.t, .int .i64 a.d, .int .i64 a.q]) (.agg #[.int .i64 b.t, .int .i64 b.d, .int .i64 b.q])).run Try.prog W = .ok s W) := fun W => by
    rw [run_equalIn_stamp, ← hs]
  clear hx hy hz hu hs
  obtain ⟨at_, ad, aq⟩ := a
  obtain ⟨bt, bd, bq⟩ := b
  obtain ⟨ct, cd, cq⟩ := c
  simp only at LX LY LZ LU LV EQ
  obtain ⟨w0, hw0⟩ : ∃ w0, w0 = ((w.alloc (Obj.cells #[.int .i64 at_, .int .i64 ad, .int .i64 aq] 23)).alloc (Obj.cells #[.int .i64 bt, .int .i64 bd, .int .i64 bq] 23)).alloc (Obj.cells #[.int .i64 ct, .int .i64 cd, .int .i64 cq] 23) := ⟨_, rfl⟩
  have B0 : Below w.heap.size w w0 := by rw [hw0]; exact below_new (below_new (below_new (Below.refl _ _) _) _) _
  have R0 : Hid (w0.heap[w.heap.size]? = some (.cells #[.int .i64 at_, .int .i64 ad, .int .i64 aq] 23)) := by
    show _ = _
    rw [hw0]; exact heap_past (by simp; omega) (heap_past (by simp) (heap_at rfl))
  have R1 : Hid (w0.heap[w.heap.size + 1]? = some (.cells #[.int .i64 bt, .int .i64 bd, .int .i64 bq] 23)) := by
    show _ = _
    rw [hw0]; exact heap_past (by simp) (heap_at (by simp))
  have R2 : Hid (w0.heap[w.heap.size + 1 + 1]? = some (.cells #[.int .i64 ct, .int .i64 cd, .int .i64 cq] 23)) := by
    show _ = _
    rw [hw0]; exact heap_at (by simp)
  go_enter Try.func5, Try.ntmps5
  go_wp2_with fail
  rw [← hw0]
  clear hw0
  refine (clkAwake_any _).mono ?_
  rintro e w1 ⟨rfl, b1⟩
  have B1 := below_then B0 b1
  have R0 := Lib.hid (row_below R0.out b1)
  have R1 := Lib.hid (row_below R1.out b1)
  have R2 := Lib.hid (row_below R2.out b1)
  obtain ⟨c00, c01, c02⟩ := stamp_at R0.out
  obtain ⟨c10, c11, c12⟩ := stamp_at R1.out
  obtain ⟨c20, c21, c22⟩ := stamp_at R2.out
  go_wp2_with fail
  refine (LX.out _).mono ?_
  rintro e w2 ⟨rfl, b2⟩
  have B2 := below_then B1 b2
  clear c00 c01 c02 c10 c11 c12 c20 c21 c22
  have R0 := Lib.hid (row_below R0.out b2)
  have R1 := Lib.hid (row_below R1.out b2)
  have R2 := Lib.hid (row_below R2.out b2)
  obtain ⟨c00, c01, c02⟩ := stamp_at R0.out
  obtain ⟨c10, c11, c12⟩ := stamp_at R1.out
  obtain ⟨c20, c21, c22⟩ := stamp_at R2.out
  go_wp2_with fail
  refine (LY.out _).mono ?_
  rintro e w3 ⟨rfl, b3⟩
  have B3 := below_then B2 b3
  clear c00 c01 c02 c10 c11 c12 c20 c21 c22
  have R0 := Lib.hid (row_below R0.out b3)
  have R1 := Lib.hid (row_below R1.out b3)
  have R2 := Lib.hid (row_below R2.out b3)
  obtain ⟨c00, c01, c02⟩ := stamp_at R0.out
  obtain ⟨c10, c11, c12⟩ := stamp_at R1.out
  obtain ⟨c20, c21, c22⟩ := stamp_at R2.out
  go_wp2_with fail
  refine (LZ.out _).mono ?_
  rintro e w4 ⟨rfl, b4⟩
  have B4 := below_then B3 b4
  clear c00 c01 c02 c10 c11 c12 c20 c21 c22
  have R0 := Lib.hid (row_below R0.out b4)
  have R1 := Lib.hid (row_below R1.out b4)
  have R2 := Lib.hid (row_below R2.out b4)
  obtain ⟨c00, c01, c02⟩ := stamp_at R0.out
  obtain ⟨c10, c11, c12⟩ := stamp_at R1.out
  obtain ⟨c20, c21, c22⟩ := stamp_at R2.out
  have EW := EQ.out
  cases x with
  | true =>
    obtain rfl : y = false := HXY.out rfl
    obtain rfl : s = false := by have := hne.out; simpa using this
    cases z with
    | true =>
      obtain rfl : u = true := HTR.out rfl rfl
      go_wp2_with fail
      refine (LU.out _).mono ?_
      rintro e w5 ⟨rfl, b5⟩
      have B5 := below_then B4 b5
      clear c00 c01 c02 c10 c11 c12 c20 c21 c22
      have R0 := Lib.hid (row_below R0.out b5)
      have R1 := Lib.hid (row_below R1.out b5)
      have R2 := Lib.hid (row_below R2.out b5)
      obtain ⟨c00, c01, c02⟩ := stamp_at R0.out
      obtain ⟨c10, c11, c12⟩ := stamp_at R1.out
      obtain ⟨c20, c21, c22⟩ := stamp_at R2.out
      go_wp2_with fail
      refine (LV.out _).mono ?_
      rintro e w6 ⟨rfl, b6⟩
      have B6 := below_then B5 b6
      go_wp2
      go_ret
      exact ⟨rfl, B6⟩
    | false =>
      go_wp2_with fail
      refine (LV.out _).mono ?_
      rintro e w5 ⟨rfl, b5⟩
      have B5 := below_then B4 b5
      go_wp2
      go_ret
      exact ⟨rfl, B5⟩
  | false =>
    cases y with
    | true =>
      obtain rfl : s = false := by have := hne.out; simpa using this
      go_wp2_with fail
      refine (LV.out _).mono ?_
      rintro e w5 ⟨rfl, b5⟩
      have B5 := below_then B4 b5
      go_wp2
      go_ret
      exact ⟨rfl, B5⟩
    | false =>
      obtain rfl : s = true := by have := hne.out; simpa using this
      go_wp2_with fail
      refine (LV.out _).mono ?_
      rintro e w5 ⟨rfl, b5⟩
      have B5 := below_then B4 b5
      go_wp2
      go_ret
      exact ⟨rfl, B5⟩

theorem contract (H : Type) (enc : TypeId × Value → H) (W : World) (base : Nat) (args : Array Value) (ds gs : List (DataW H)) (before : List MemPlace)
    (hval : ∀ (j : Nat) t v, Try.f5.params[j]? = some t → args[j]? = some v → Value.okWide Try.prog W .any base t v)
    (hW : DataW.Whole enc Try.prog Try.f5.params.toList Rows.clockTotalSpec.vars false W args.toList ds gs before) :
    Calls Try.prog 5 args W fun e W' => ∃ v, e = .returned v ∧ Rows.clockTotalSpec.post enc Try.prog Try.f5 false true false false W args v W' := by
  have hlt : ∀ x ∈ before, x.block < W.heap.size := fun x hx => by simpa using hW.lt x hx
  refine law_step 4 Try.laid_ (by kernel_rfl) rfl Try.underlying4 rfl hW (fun xs hx => ?_) ?_
  · match xs, hx with
    | [d0, d1, d2], _ => rfl
  · obtain ⟨p, q, hA0, hV, rfl, _, _⟩ := hW
    have hA : DataW.TrodAll enc Try.prog W 0 (fun _ => true) true Try.f5.params.toList args.toList ds p := hA0
    rw [Try.params5] at hA hval
    obtain ⟨v0, vs0, d0, ds0, p0, q0, e0, rfl, rfl, h0, r0⟩ := trodAll_cons hA
    obtain ⟨v1, vs1, d1, ds1, p1, q1, e1, rfl, rfl, h1, r1⟩ := trodAll_cons r0
    obtain ⟨v2, vs2, d2, ds2, p2, q2, e2, rfl, rfl, h2, r2⟩ := trodAll_cons r1
    obtain ⟨rfl, rfl, rfl⟩ := trodAll_nil r2
    subst e2
    subst e1
    obtain rfl : args = #[v0, v1, v2] := by cases args; simp_all
    clear e0 hA0
    obtain ⟨x0, rfl, wf0⟩ := open_stamp (hval 0 23 v0 rfl rfl) h0
    obtain ⟨x1, rfl, wf1⟩ := open_stamp (hval 1 23 v1 rfl rfl) h1
    obtain ⟨x2, rfl, wf2⟩ := open_stamp (hval 2 23 v2 rfl rfl) h2
    exact walk x0 x1 x2 W

set_option maxRecDepth 100000 in
theorem lifted (os : Os) (started : os.Started) (H : Type) (enc : TypeId × Value → H) :
    ReturnsInHanded {} Try.checked os 5 .any (Rows.clockTotalSpec.pre6 enc Try.prog Try.f5 Rows.clockTotalRow.domain false) (Rows.clockTotalSpec.post enc Try.prog Try.f5 false true false false) := by
  refine returnsInHanded_of_change (C := Try.checked) Try.own_ started (by kernel_rfl) Try.func5
    (ChangeSpec.witness6 (enc := enc) (C := Try.checked) false ⟨#[], #[.agg #[.int .i64 0, .int .i64 0, .int .i64 0], .agg #[.int .i64 0, .int .i64 0, .int .i64 0], .agg #[.int .i64 0, .int .i64 0, .int .i64 0]], []⟩ 8 (by kernel_rfl) (by kernel_rfl) (by kernel_rfl) (by kernel_rfl)) ?_
  intro W base args ds gs before hval hW _ _
  exact contract H enc W base args ds gs before hval hW

theorem holds : Rows.ClockTotalSaid :=
  OpenClaim.holds_of_wide 5 Try.f5 rfl rfl rfl rfl rfl rfl rfl ⟨rfl, rfl, rfl, rfl, rfl⟩ rfl rfl rfl rfl rfl (by kernel_rfl) Try.func5 (by kernel_rfl)
    (of_decide_eq_true (by kernel_rfl)) (by unfold Func.isWrapper; first | (rw [if_pos (by decide +kernel)]; kernel_rfl) | (rw [if_neg (by decide +kernel)]; exact ⟨rfl, rfl⟩))
    (fun os started H enc _ => lifted os started H enc)
end Go.Proofs.Ythhacniljipegaa.clockTotal
