/- Layer 4: Less, Right, Next: the code and the document's answer. -/
import Derived.Test.YthhacniljipegaaClkCmp
import Derived.IntWalk
namespace Go.Proofs.Ythhacniljipegaa
set_option maxRecDepth 100000
open Go.RowKit

theorem clkLess_any (a b : S3) (w : World) : Calls Try.prog 12 #[a.agg, b.agg] w fun e w' => e = .returned (.bool (lessS a b)) ∧ Below w.heap.size w w' := by
  have P := Lib.hid (fun W => compare_any a b W)
  have hr := Lib.hid (cmpS_less a b)
  obtain ⟨t, d, q⟩ := a
  obtain ⟨u, f, r⟩ := b
  obtain ⟨c, hc⟩ : ∃ c, Hid (c = cmpS ⟨t, d, q⟩ ⟨u, f, r⟩) := ⟨_, rfl⟩
  rw [← hc.out] at P hr
  clear hc
  go_enter Try.func12, Try.ntmps12
  go_wp2_with fail
  have B1 := below_new (below_new (Below.refl w.heap.size w) (Obj.cells #[.int .i64 t, .int .i64 d, .int .i64 q] 23)) (Obj.cells #[.int .i64 u, .int .i64 f, .int .i64 r] 23)
  refine (P.out _).mono ?_
  rintro e w2 ⟨rfl, bb⟩
  have B2 := below_then B1 bb
  go_wp2
  go_ret
  exact ⟨ret_bool (by rw [← hr.out]), B2⟩

set_option maxHeartbeats 800000 in
theorem refClkLess_any (a b : S3) (w : World) : Calls Try.prog 13 #[a.agg, b.agg] w fun e w' => e = .returned (.bool (lessS a b)) ∧ Below w.heap.size w w' := by
  obtain ⟨t, d, q⟩ := a
  obtain ⟨u, f, r⟩ := b
  have B1 := below_new (below_new (Below.refl w.heap.size w) (Obj.cells #[.int .i64 t, .int .i64 d, .int .i64 q] 23)) (Obj.cells #[.int .i64 u, .int .i64 f, .int .i64 r] 23)
  rcases Decidable.em (t = u) with rfl | h0
  · rcases Decidable.em (d = f) with rfl | h1
    · have hr := Lib.hid (show lessS ⟨t, d, q⟩ ⟨t, d, r⟩ = decide (q < r) by simp [lessS])
      go_enter Try.func13, Try.ntmps13
      go_wp2
      go_ret
      exact ⟨ret_bool hr.out.symm, B1⟩
    · have hr := Lib.hid (show lessS ⟨t, d, q⟩ ⟨t, f, r⟩ = decide (d < f) by simp [lessS, h1])
      go_enter Try.func13, Try.ntmps13
      go_wp2
      go_ret
      exact ⟨ret_bool hr.out.symm, B1⟩
  · have hr := Lib.hid (show lessS ⟨t, d, q⟩ ⟨u, f, r⟩ = decide (t < u) by simp [lessS, h0])
    go_enter Try.func13, Try.ntmps13
    go_wp2
    go_ret
    exact ⟨ret_bool hr.out.symm, B1⟩

def rightT (t p : Int) : Int := if p < 0 ∨ t ≤ p ∨ 1125899906842624 < t ∨ 1048576 < t - p then 14 else 0
def nextN (k n : Int) : Int := if rightT (max n (k + 1)) k = 0 then max n (k + 1) else 0
def nextE (k n : Int) : Int := rightT (max n (k + 1)) k

theorem right_cases (t p : Int) : (p < 0 ∧ rightT t p = 14) ∨ (¬ p < 0 ∧ t ≤ p ∧ rightT t p = 14) ∨ (¬ p < 0 ∧ ¬ t ≤ p ∧ 1125899906842624 < t ∧ rightT t p = 14) ∨
    (¬ p < 0 ∧ ¬ t ≤ p ∧ ¬ 1125899906842624 < t ∧ 1048576 < t - p ∧ rightT t p = 14) ∨ (¬ p < 0 ∧ ¬ t ≤ p ∧ ¬ 1125899906842624 < t ∧ ¬ 1048576 < t - p ∧ rightT t p = 0) := by
  unfold rightT
  split <;> omega

set_option maxHeartbeats 800000 in
theorem clkRight_any (t p : Int) (w : World) : Calls Try.prog 14 #[.int .i64 t, .int .i64 p] w fun e w' => e = .returned (.int .i64 (rightT t p)) ∧ w' = w := by
  rcases right_cases t p with ⟨h0, hr⟩ | ⟨h0, h1, hr⟩ | ⟨h0, h1, h2, hr⟩ | ⟨h0, h1, h2, h3, hr⟩ | ⟨h0, h1, h2, h3, hr⟩
  all_goals
    have HR := Lib.hid hr
    clear hr
    (try have hs : IntKind.i64.wrap (t - p) = t - p := by simp [IntKind.wrap, IntKind.bits, IntKind.signed]; omega)
    go_enter Try.func14, Try.ntmps14
    go_wp2
    go_ret
    exact ⟨by rw [HR.out]; rfl, rfl⟩

set_option maxHeartbeats 800000 in
theorem refClkRight_any (t p : Int) (w : World) : Calls Try.prog 15 #[.int .i64 t, .int .i64 p] w fun e w' => e = .returned (.int .i64 (rightT t p)) ∧ w' = w := by
  rcases right_cases t p with ⟨h0, hr⟩ | ⟨h0, h1, hr⟩ | ⟨h0, h1, h2, hr⟩ | ⟨h0, h1, h2, h3, hr⟩ | ⟨h0, h1, h2, h3, hr⟩
  all_goals
    have HR := Lib.hid hr
    clear hr
    (try have hs : IntKind.i64.wrap (t - p) = t - p := by simp [IntKind.wrap, IntKind.bits, IntKind.signed]; omega)
    go_enter Try.func15, Try.ntmps15
    go_wp2
    go_ret
    exact ⟨by rw [HR.out]; rfl, rfl⟩

set_option maxHeartbeats 800000 in
theorem next_of {k n m : Int} (hm : max n (k + 1) = m) : ∃ e, Hid (rightT m k = e) ∧ Hid (nextN k n = if e = 0 then m else 0) ∧ Hid (nextE k n = e) ∧ (e = 0 ∨ e = 14) := by
  subst hm
  refine ⟨_, rfl, rfl, rfl, ?_⟩
  rcases right_cases (max n (k + 1)) k with h | h | h | h | h <;> omega

set_option maxHeartbeats 800000 in
theorem clkNext_any (k n : Int) (w : World) (hk : -9223372036854775808 ≤ k ∧ k ≤ 9223372036854775807) (hn : -9223372036854775808 ≤ n ∧ n ≤ 9223372036854775807) :
    Calls Try.prog 10 #[.int .i64 k, .int .i64 n] w fun e w' => e = .returned (.tuple #[.int .i64 (nextN k n), .int .i64 (nextE k n)]) ∧ w' = w := by
  rcases Decidable.em (k = 9223372036854775807) with hk2 | hk2
  · have h14 : rightT (max n (k + 1)) k = 14 := by unfold rightT; rw [if_pos]; omega
    have HX : Hid (nextN k n = 0) := by show _ = _; unfold nextN; rw [h14]; rfl
    have HY : Hid (nextE k n = 14) := h14
    have hr : rightT n k = 14 := by unfold rightT; rw [if_pos]; omega
    have P := Lib.hid (clkRight_any n k w)
    rw [hr] at P
    have hw2 : IntKind.i64.wrap (k + 1) = -9223372036854775808 := by simp [IntKind.wrap, IntKind.bits, IntKind.signed]; omega
    have hw : wrap64 (k + 1) = -9223372036854775808 := by unfold wrap64; omega
    have hl : ¬ n < -9223372036854775808 := by omega
    have hl2 : -9223372036854775808 ≤ n := by omega
    clear hk hn hr h14 hk2
    go_enter Try.func10, Try.ntmps10
    go_wp2_with (go_at_call 14; refine P.out.mono ?_; rintro e w' ⟨rfl, rfl⟩)
    go_ret2
    exact ⟨by rw [HX.out, HY.out]; rfl, rfl⟩
  · have hw : IntKind.i64.wrap (k + 1) = k + 1 := by simp [IntKind.wrap, IntKind.bits, IntKind.signed]; omega
    have hw2 : wrap64 (k + 1) = k + 1 := by unfold wrap64; omega
    rcases Decidable.em (n < k + 1) with h2 | h2
    · obtain ⟨e, he, hx, hy, hz⟩ := next_of (k := k) (n := n) (m := k + 1) (by omega)
      have P := Lib.hid (clkRight_any (k + 1) k w)
      rw [he.out] at P
      clear he hk hn
      rcases hz with rfl | rfl
      all_goals
        go_enter Try.func10, Try.ntmps10
        go_wp2_with (go_at_call 14; refine P.out.mono ?_; rintro e w' ⟨rfl, rfl⟩)
        go_ret2
        exact ⟨by rw [hx.out, hy.out]; rfl, rfl⟩
    · obtain ⟨e, he, hx, hy, hz⟩ := next_of (k := k) (n := n) (m := n) (by omega)
      have P := Lib.hid (clkRight_any n k w)
      rw [he.out] at P
      clear he hk hn
      rcases hz with rfl | rfl
      all_goals
        go_enter Try.func10, Try.ntmps10
        go_wp2_with (go_at_call 14; refine P.out.mono ?_; rintro e w' ⟨rfl, rfl⟩)
        go_ret2
        exact ⟨by rw [hx.out, hy.out]; rfl, rfl⟩

set_option maxHeartbeats 800000 in
theorem refClkNext_any (k n : Int) (w : World) :
    Calls Try.prog 11 #[.int .i64 k, .int .i64 n] w fun e w' => e = .returned (.tuple #[.int .i64 (nextN k n), .int .i64 (nextE k n)]) ∧ w' = w := by
  rcases Decidable.em (k < 0) with h0 | h0
  · have h14 : rightT (max n (k + 1)) k = 14 := by unfold rightT; rw [if_pos]; omega
    have HX : Hid (nextN k n = 0) := by show _ = _; unfold nextN; rw [h14]; rfl
    have HY : Hid (nextE k n = 14) := h14
    clear h14
    go_enter Try.func11, Try.ntmps11
    go_wp2
    go_ret2
    exact ⟨by rw [HX.out, HY.out]; rfl, rfl⟩
  · rcases Decidable.em (1125899906842623 < k) with h1 | h1
    · have h14 : rightT (max n (k + 1)) k = 14 := by unfold rightT; rw [if_pos]; omega
      have HX : Hid (nextN k n = 0) := by show _ = _; unfold nextN; rw [h14]; rfl
      have HY : Hid (nextE k n = 14) := h14
      clear h14
      go_enter Try.func11, Try.ntmps11
      go_wp2
      go_ret2
      exact ⟨by rw [HX.out, HY.out]; rfl, rfl⟩
    · rcases Decidable.em (k + 1 < n) with h2 | h2
      · obtain ⟨e, he, hx, hy, hz⟩ := next_of (k := k) (n := n) (m := n) (by omega)
        have P := Lib.hid (refClkRight_any n k w)
        rw [he.out] at P
        clear he
        rcases hz with rfl | rfl
        all_goals
          go_enter Try.func11, Try.ntmps11
          go_wp2_with (go_at_call 15; refine P.out.mono ?_; rintro e w' ⟨rfl, rfl⟩)
          go_ret2
          exact ⟨by rw [hx.out, hy.out]; rfl, rfl⟩
      · obtain ⟨e, he, hx, hy, hz⟩ := next_of (k := k) (n := n) (m := k + 1) (by omega)
        have P := Lib.hid (refClkRight_any (k + 1) k w)
        rw [he.out] at P
        clear he
        rcases hz with rfl | rfl
        all_goals
          go_enter Try.func11, Try.ntmps11
          go_wp2_with (go_at_call 15; refine P.out.mono ?_; rintro e w' ⟨rfl, rfl⟩)
          go_ret2
          exact ⟨by rw [hx.out, hy.out]; rfl, rfl⟩
end Go.Proofs.Ythhacniljipegaa
