/- Whatever vectors come in: VectorLacks answers true: what any one lacks of another one is what the document says. No condition. -/
import Derived.Test.YtefbgbciaiedeaaRows
import Derived.Test.YtefbgbciaiedeaaLaw
import Derived.Test.YtefbgbciaiedeaaVecAlive
import Derived.Test.YtefbgbciaiedeaaVecOpen
import Derived.Test.YtefbgbciaiedeaaVecLaw
namespace Go.Proofs.Ytefbgbciaiedeaa.vectorLacks
open Go.ChangeShapes Go.WideShapes Go.ChangeAt Go.RowKit Go.ChangeMaps

set_option maxRecDepth 100000 in
set_option maxHeartbeats 12800000 in
theorem walk (A B : Option Addr) (n c m d : Nat) (a b : List Int) (w : World) (ha : Rd w A n c (vals .i64 a)) (hb : Rd w B m d (vals .i64 b)) :
    Calls Try.prog 5 #[.slice A n c, .slice B m d] w fun e w' => e = .returned (.bool true) ∧ Below w.heap.size w w' := by
  have RA := Lib.hid ha; have RB := Lib.hid hb
  clear ha hb
  by_cases hf : n ≤ 100 ∧ m ≤ 100
  rotate_left
  · have hfew : (decide (n ≤ 100) && decide (m ≤ 100)) = false := by
      by_cases h1 : n ≤ 100 <;> by_cases h2 : m ≤ 100 <;> simp [h1, h2] <;> omega
    clear hf
    go_enter Try.func5, Try.ntmps5
    go_wp2_with fail
    refine (is_bool (r := false) hfew (vecFew_any A B n m c d _)).mono ?_
    rintro e w1 ⟨rfl, hw1⟩
    have b1 := same_below hw1
    clear hw1
    have B1 := below_then (Below.refl w.heap.size w) b1
    replace RA := Lib.hid ((RA.out).below b1)
    replace RB := Lib.hid ((RB.out).below b1)
    clear b1
    go_wp2_with fail
    refine (vecAlive_any _).mono ?_
    rintro e w2 ⟨rfl, b2⟩
    have B2 := below_then (B1) b2
    replace RA := Lib.hid ((RA.out).below b2)
    replace RB := Lib.hid ((RB.out).below b2)
    clear B1
    clear b2
    go_wp2
    go_ret
    exact ⟨rfl, B2⟩
  have hfew : (decide (n ≤ 100) && decide (m ≤ 100)) = true := by simp [hf.1, hf.2]
  have hm4 : m ≤ 4294967296 := by omega
  clear hf
  obtain ⟨r, hr, j, hj⟩ : ∃ r, Hid (lacksV a b = r) ∧ ∃ j, Hid (r.length = j) := ⟨_, rfl, _, rfl⟩
  cases hrb : rightV b with
  | false =>
    go_enter Try.func5, Try.ntmps5
    go_wp2_with fail
    refine (is_bool (r := true) hfew (vecFew_any A B n m c d _)).mono ?_
    rintro e w1 ⟨rfl, hw1⟩
    have b1 := same_below hw1
    clear hw1
    have B1 := below_then (Below.refl w.heap.size w) b1
    replace RA := Lib.hid ((RA.out).below b1)
    replace RB := Lib.hid ((RB.out).below b1)
    clear b1
    go_wp2_with fail
    refine (is_bool (r := false) hrb (refVRight_any B m d b _ (RB.out))).mono ?_
    rintro e w2 ⟨rfl, hw2⟩
    have b2 := same_below hw2
    clear hw2
    have B2 := below_then (B1) b2
    replace RA := Lib.hid ((RA.out).below b2)
    replace RB := Lib.hid ((RB.out).below b2)
    clear B1
    clear b2
    go_wp2_with fail
    refine (vecAlive_any _).mono ?_
    rintro e w3 ⟨rfl, b3⟩
    have B3 := below_then (B2) b3
    replace RA := Lib.hid ((RA.out).below b3)
    replace RB := Lib.hid ((RB.out).below b3)
    clear B2
    clear b3
    go_wp2_with fail
    refine (vecLacks_is hr.out hj.out (RA.out) (RB.out)).mono ?_
    rintro e w4 ⟨T4, c4, rfl, r4, b4⟩
    have B4 := below_then (B3) b4
    replace RA := Lib.hid ((RA.out).below b4)
    replace RB := Lib.hid ((RB.out).below b4)
    have RX := Lib.hid r4
    clear r4
    clear B3
    clear b4
    go_wp2_with fail
    refine (refLacks_is hr.out hj.out (RA.out) (RB.out)).mono ?_
    rintro e w5 ⟨T5, c5, rfl, r5, b5⟩
    have B5 := below_then (B4) b5
    replace RA := Lib.hid ((RA.out).below b5)
    replace RB := Lib.hid ((RB.out).below b5)
    replace RX := Lib.hid ((RX.out).below b5)
    have RY := Lib.hid r5
    clear r5
    clear B4
    clear b5
    go_wp2_with fail
    refine (is_bool (r := true) (by simp) (refDots_any T4 T5 j j c4 c5 r r _ (RX.out) (RY.out))).mono ?_
    rintro e w6 ⟨rfl, hw6⟩
    have b6 := quiet_below hw6
    clear hw6
    have B6 := below_then (B5) b6
    replace RA := Lib.hid ((RA.out).below b6)
    replace RB := Lib.hid ((RB.out).below b6)
    replace RX := Lib.hid ((RX.out).below b6)
    replace RY := Lib.hid ((RY.out).below b6)
    clear B5
    clear b6
    go_wp2
    go_ret
    exact ⟨rfl, B6⟩
  | true =>
    have hok : b.all okN = true := by unfold rightV at hrb; simp only [Bool.and_eq_true] at hrb; exact hrb.2
    have hok := Lib.hid hok
    obtain ⟨T, hT⟩ : ∃ T, Hid (totalV b = T) := ⟨_, rfl⟩
    rcases Decidable.em (5000 < T) with h5 | h5
    · skip
      go_enter Try.func5, Try.ntmps5
      go_wp2_with fail
      refine (is_bool (r := true) hfew (vecFew_any A B n m c d _)).mono ?_
      rintro e w1 ⟨rfl, hw1⟩
      have b1 := same_below hw1
      clear hw1
      have B1 := below_then (Below.refl w.heap.size w) b1
      replace RA := Lib.hid ((RA.out).below b1)
      replace RB := Lib.hid ((RB.out).below b1)
      clear b1
      go_wp2_with fail
      refine (is_bool (r := true) hrb (refVRight_any B m d b _ (RB.out))).mono ?_
      rintro e w2 ⟨rfl, hw2⟩
      have b2 := same_below hw2
      clear hw2
      have B2 := below_then (B1) b2
      replace RA := Lib.hid ((RA.out).below b2)
      replace RB := Lib.hid ((RB.out).below b2)
      clear B1
      clear b2
      go_wp2_with fail
      refine (is_int hT.out (refTotal_any B m d b _ (RB.out) hok.out hm4)).mono ?_
      rintro e w3 ⟨rfl, hw3⟩
      have b3 := same_below hw3
      clear hw3
      have B3 := below_then (B2) b3
      replace RA := Lib.hid ((RA.out).below b3)
      replace RB := Lib.hid ((RB.out).below b3)
      clear B2
      clear b3
      go_wp2_with fail
      refine (vecAlive_any _).mono ?_
      rintro e w4 ⟨rfl, b4⟩
      have B4 := below_then (B3) b4
      replace RA := Lib.hid ((RA.out).below b4)
      replace RB := Lib.hid ((RB.out).below b4)
      clear B3
      clear b4
      go_wp2
      go_ret
      exact ⟨rfl, B4⟩
    · skip
      go_enter Try.func5, Try.ntmps5
      go_wp2_with fail
      refine (is_bool (r := true) hfew (vecFew_any A B n m c d _)).mono ?_
      rintro e w1 ⟨rfl, hw1⟩
      have b1 := same_below hw1
      clear hw1
      have B1 := below_then (Below.refl w.heap.size w) b1
      replace RA := Lib.hid ((RA.out).below b1)
      replace RB := Lib.hid ((RB.out).below b1)
      clear b1
      go_wp2_with fail
      refine (is_bool (r := true) hrb (refVRight_any B m d b _ (RB.out))).mono ?_
      rintro e w2 ⟨rfl, hw2⟩
      have b2 := same_below hw2
      clear hw2
      have B2 := below_then (B1) b2
      replace RA := Lib.hid ((RA.out).below b2)
      replace RB := Lib.hid ((RB.out).below b2)
      clear B1
      clear b2
      go_wp2_with fail
      refine (is_int hT.out (refTotal_any B m d b _ (RB.out) hok.out hm4)).mono ?_
      rintro e w3 ⟨rfl, hw3⟩
      have b3 := same_below hw3
      clear hw3
      have B3 := below_then (B2) b3
      replace RA := Lib.hid ((RA.out).below b3)
      replace RB := Lib.hid ((RB.out).below b3)
      clear B2
      clear b3
      go_wp2_with fail
      refine (vecAlive_any _).mono ?_
      rintro e w4 ⟨rfl, b4⟩
      have B4 := below_then (B3) b4
      replace RA := Lib.hid ((RA.out).below b4)
      replace RB := Lib.hid ((RB.out).below b4)
      clear B3
      clear b4
      go_wp2_with fail
      refine (vecLacks_is hr.out hj.out (RA.out) (RB.out)).mono ?_
      rintro e w5 ⟨T5, c5, rfl, r5, b5⟩
      have B5 := below_then (B4) b5
      replace RA := Lib.hid ((RA.out).below b5)
      replace RB := Lib.hid ((RB.out).below b5)
      have RX := Lib.hid r5
      clear r5
      clear B4
      clear b5
      go_wp2_with fail
      refine (refLacks_is hr.out hj.out (RA.out) (RB.out)).mono ?_
      rintro e w6 ⟨T6, c6, rfl, r6, b6⟩
      have B6 := below_then (B5) b6
      replace RA := Lib.hid ((RA.out).below b6)
      replace RB := Lib.hid ((RB.out).below b6)
      replace RX := Lib.hid ((RX.out).below b6)
      have RY := Lib.hid r6
      clear r6
      clear B5
      clear b6
      go_wp2_with fail
      refine (is_bool (r := true) (by simp) (refDots_any T5 T6 j j c5 c6 r r _ (RX.out) (RY.out))).mono ?_
      rintro e w7 ⟨rfl, hw7⟩
      have b7 := quiet_below hw7
      clear hw7
      have B7 := below_then (B6) b7
      replace RA := Lib.hid ((RA.out).below b7)
      replace RB := Lib.hid ((RB.out).below b7)
      replace RX := Lib.hid ((RX.out).below b7)
      replace RY := Lib.hid ((RY.out).below b7)
      clear B6
      clear b7
      go_wp2
      go_ret
      exact ⟨rfl, B7⟩

theorem contract (H : Type) (enc : TypeId × Value → H) (W : World) (base : Nat) (args : Array Value) (ds gs : List (DataW H)) (before : List MemPlace)
    (hval : ∀ (j : Nat) t v, Try.f5.params[j]? = some t → args[j]? = some v → Value.okWide Try.prog W .any base t v)
    (hW : DataW.Whole enc Try.prog Try.f5.params.toList Rows.vectorLacksSpec.vars false W args.toList ds gs before) :
    Calls Try.prog 5 args W fun e W' => ∃ v, e = .returned v ∧ Rows.vectorLacksSpec.post enc Try.prog Try.f5 false true false false W args v W' := by
  have hlt : ∀ x ∈ before, x.block < W.heap.size := fun x hx => by simpa using hW.lt x hx
  refine law_step 4 Try.laid_ (by kernel_rfl) rfl Try.underlying4 rfl hW (fun xs hx => ?_) ?_
  · match xs, hx with
    | [d0, d1], _ => rfl
  · obtain ⟨p, q, hA0, hV, rfl, _, _⟩ := hW
    have hA : DataW.TrodAll enc Try.prog W 0 (fun _ => true) true Try.f5.params.toList args.toList ds p := hA0
    rw [Try.params5] at hA hval
    obtain ⟨v0, vs0, d0, ds0, p0, q0, e0, rfl, rfl, h0, r0⟩ := trodAll_cons hA
    obtain ⟨v1, vs1, d1, ds1, p1, q1, e1, rfl, rfl, h1, r1⟩ := trodAll_cons r0
    obtain ⟨rfl, rfl, rfl⟩ := trodAll_nil r1
    subst e1
    obtain rfl : args = #[v0, v1] := by cases args; simp_all
    clear e0 hA0
    obtain ⟨A0, n0, c0, a, rfl, rd0, wf0⟩ := open_vec (hval 0 23 v0 rfl rfl) h0 (fun x hx => hlt x (by simp [hx]))
    obtain ⟨A1, n1, c1, b, rfl, rd1, wf1⟩ := open_vec (hval 1 23 v1 rfl rfl) h1 (fun x hx => hlt x (by simp [hx]))
    exact walk A0 A1 n0 c0 n1 c1 a b W rd0 rd1

set_option maxRecDepth 100000 in
theorem lifted (os : Os) (started : os.Started) (H : Type) (enc : TypeId × Value → H) :
    ReturnsInHanded {} Try.checked os 5 .any (Rows.vectorLacksSpec.pre6 enc Try.prog Try.f5 Rows.vectorLacksRow.domain false) (Rows.vectorLacksSpec.post enc Try.prog Try.f5 false true false false) := by
  refine returnsInHanded_of_change (C := Try.checked) Try.own_ started (by kernel_rfl) Try.func5
    (ChangeSpec.witness6 (enc := enc) (C := Try.checked) false ⟨#[], #[.slice none 0 0, .slice none 0 0], []⟩ 8 (by kernel_rfl) (by kernel_rfl) (by kernel_rfl) (by kernel_rfl)) ?_
  intro W base args ds gs before hval hW _ _
  exact contract H enc W base args ds gs before hval hW

theorem holds : Rows.VectorLacksSaid :=
  OpenClaim.holds_of_wide 5 Try.f5 rfl rfl rfl rfl rfl rfl rfl ⟨rfl, rfl, rfl, rfl, rfl⟩ rfl rfl rfl rfl rfl (by kernel_rfl) Try.func5 (by kernel_rfl)
    (of_decide_eq_true (by kernel_rfl)) (by unfold Func.isWrapper; first | (rw [if_pos (by decide +kernel)]; kernel_rfl) | (rw [if_neg (by decide +kernel)]; exact ⟨rfl, rfl⟩))
    (fun os started H enc _ => lifted os started H enc)
end Go.Proofs.Ytefbgbciaiedeaa.vectorLacks
