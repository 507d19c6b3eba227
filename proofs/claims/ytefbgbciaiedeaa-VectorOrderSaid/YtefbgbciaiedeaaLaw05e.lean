/- Whatever vectors come in: VectorOrder answers true: one is up to another one just if their Join is that one, and their Meet the first one; two that are up to one another are the same; what is up to what is up to a third one is up to that. No condition. -/
import Derived.Test.YtefbgbciaiedeaaRows
import Derived.Test.YtefbgbciaiedeaaLaw
import Derived.Test.YtefbgbciaiedeaaVecAlive
import Derived.Test.YtefbgbciaiedeaaVecOpen
import Derived.Test.YtefbgbciaiedeaaVecLaw
namespace Go.Proofs.Ytefbgbciaiedeaa.vectorOrder
open Go.ChangeShapes Go.WideShapes Go.ChangeAt Go.RowKit Go.ChangeMaps

set_option maxRecDepth 100000 in
set_option maxHeartbeats 12800000 in
theorem walk (A B C : Option Addr) (n c m d p q : Nat) (a b k : List Int) (w : World) (ha : Rd w A n c (vals .i64 a)) (hb : Rd w B m d (vals .i64 b)) (hc : Rd w C p q (vals .i64 k)) :
    Calls Try.prog 7 #[.slice A n c, .slice B m d, .slice C p q] w fun e w' => e = .returned (.bool true) ∧ Below w.heap.size w w' := by
  have RA := Lib.hid ha; have RB := Lib.hid hb; have RC := Lib.hid hc
  have hla := Lib.hid (show a.length = n by simpa using ha.len); have hlb := Lib.hid (show b.length = m by simpa using hb.len); have hlk := Lib.hid (show k.length = p by simpa using hc.len)
  clear ha hb hc
  by_cases hf : n ≤ 100 ∧ m ≤ 100
  rotate_left
  · have hfew : (decide (n ≤ 100) && decide (m ≤ 100)) = false := by
      by_cases h1 : n ≤ 100 <;> by_cases h2 : m ≤ 100 <;> simp [h1, h2] <;> omega
    clear hf
    go_enter Try.func7, Try.ntmps7
    go_wp2_with fail
    refine (is_bool (r := false) hfew (vecFew_any A B n m c d _)).mono ?_
    rintro e w1 ⟨rfl, hw1⟩
    have b1 := same_below hw1
    clear hw1
    have B1 := below_then (Below.refl w.heap.size w) b1
    replace RA := Lib.hid ((RA.out).below b1)
    replace RB := Lib.hid ((RB.out).below b1)
    replace RC := Lib.hid ((RC.out).below b1)
    clear b1
    go_wp2_with fail
    refine (vecAlive_any _).mono ?_
    rintro e w2 ⟨rfl, b2⟩
    have B2 := below_then (B1) b2
    replace RA := Lib.hid ((RA.out).below b2)
    replace RB := Lib.hid ((RB.out).below b2)
    replace RC := Lib.hid ((RC.out).below b2)
    clear B1
    clear b2
    go_wp2
    go_ret
    exact ⟨rfl, B2⟩
  have hfew : (decide (n ≤ 100) && decide (m ≤ 100)) = true := by simp [hf.1, hf.2]
  by_cases hp : p ≤ 100
  rotate_left
  · have hpz : (100 : Int) < (p : Int) := by omega
    clear hf
    go_enter Try.func7, Try.ntmps7
    go_wp2_with fail
    refine (is_bool (r := true) hfew (vecFew_any A B n m c d _)).mono ?_
    rintro e w1 ⟨rfl, hw1⟩
    have b1 := same_below hw1
    clear hw1
    have B1 := below_then (Below.refl w.heap.size w) b1
    replace RA := Lib.hid ((RA.out).below b1)
    replace RB := Lib.hid ((RB.out).below b1)
    replace RC := Lib.hid ((RC.out).below b1)
    clear b1
    go_wp2_with fail
    refine (vecAlive_any _).mono ?_
    rintro e w2 ⟨rfl, b2⟩
    have B2 := below_then (B1) b2
    replace RA := Lib.hid ((RA.out).below b2)
    replace RB := Lib.hid ((RB.out).below b2)
    replace RC := Lib.hid ((RC.out).below b2)
    clear B1
    clear b2
    go_wp2
    go_ret
    exact ⟨rfl, B2⟩
  have hpz : ¬ (100 : Int) < (p : Int) := by omega
  cases hra : rightV a with
  | false =>
    clear hf
    go_enter Try.func7, Try.ntmps7
    go_wp2_with fail
    refine (is_bool (r := true) hfew (vecFew_any A B n m c d _)).mono ?_
    rintro e w1 ⟨rfl, hw1⟩
    have b1 := same_below hw1
    clear hw1
    have B1 := below_then (Below.refl w.heap.size w) b1
    replace RA := Lib.hid ((RA.out).below b1)
    replace RB := Lib.hid ((RB.out).below b1)
    replace RC := Lib.hid ((RC.out).below b1)
    clear b1
    go_wp2_with fail
    refine (is_bool (r := false) hra (vecRight_any A n c a _ (RA.out))).mono ?_
    rintro e w2 ⟨rfl, hw2⟩
    have b2 := same_below hw2
    clear hw2
    have B2 := below_then (B1) b2
    replace RA := Lib.hid ((RA.out).below b2)
    replace RB := Lib.hid ((RB.out).below b2)
    replace RC := Lib.hid ((RC.out).below b2)
    clear B1
    clear b2
    go_wp2_with fail
    refine (vecAlive_any _).mono ?_
    rintro e w3 ⟨rfl, b3⟩
    have B3 := below_then (B2) b3
    replace RA := Lib.hid ((RA.out).below b3)
    replace RB := Lib.hid ((RB.out).below b3)
    replace RC := Lib.hid ((RC.out).below b3)
    clear B2
    clear b3
    go_wp2
    go_ret
    exact ⟨rfl, B3⟩
  | true =>
  cases hrb : rightV b with
  | false =>
    clear hf
    go_enter Try.func7, Try.ntmps7
    go_wp2_with fail
    refine (is_bool (r := true) hfew (vecFew_any A B n m c d _)).mono ?_
    rintro e w1 ⟨rfl, hw1⟩
    have b1 := same_below hw1
    clear hw1
    have B1 := below_then (Below.refl w.heap.size w) b1
    replace RA := Lib.hid ((RA.out).below b1)
    replace RB := Lib.hid ((RB.out).below b1)
    replace RC := Lib.hid ((RC.out).below b1)
    clear b1
    go_wp2_with fail
    refine (is_bool (r := true) hra (vecRight_any A n c a _ (RA.out))).mono ?_
    rintro e w2 ⟨rfl, hw2⟩
    have b2 := same_below hw2
    clear hw2
    have B2 := below_then (B1) b2
    replace RA := Lib.hid ((RA.out).below b2)
    replace RB := Lib.hid ((RB.out).below b2)
    replace RC := Lib.hid ((RC.out).below b2)
    clear B1
    clear b2
    go_wp2_with fail
    refine (is_bool (r := false) hrb (vecRight_any B m d b _ (RB.out))).mono ?_
    rintro e w3 ⟨rfl, hw3⟩
    have b3 := same_below hw3
    clear hw3
    have B3 := below_then (B2) b3
    replace RA := Lib.hid ((RA.out).below b3)
    replace RB := Lib.hid ((RB.out).below b3)
    replace RC := Lib.hid ((RC.out).below b3)
    clear B2
    clear b3
    go_wp2_with fail
    refine (vecAlive_any _).mono ?_
    rintro e w4 ⟨rfl, b4⟩
    have B4 := below_then (B3) b4
    replace RA := Lib.hid ((RA.out).below b4)
    replace RB := Lib.hid ((RB.out).below b4)
    replace RC := Lib.hid ((RC.out).below b4)
    clear B3
    clear b4
    go_wp2
    go_ret
    exact ⟨rfl, B4⟩
  | true =>
  cases hrk : rightV k with
  | false =>
    clear hf
    go_enter Try.func7, Try.ntmps7
    go_wp2_with fail
    refine (is_bool (r := true) hfew (vecFew_any A B n m c d _)).mono ?_
    rintro e w1 ⟨rfl, hw1⟩
    have b1 := same_below hw1
    clear hw1
    have B1 := below_then (Below.refl w.heap.size w) b1
    replace RA := Lib.hid ((RA.out).below b1)
    replace RB := Lib.hid ((RB.out).below b1)
    replace RC := Lib.hid ((RC.out).below b1)
    clear b1
    go_wp2_with fail
    refine (is_bool (r := true) hra (vecRight_any A n c a _ (RA.out))).mono ?_
    rintro e w2 ⟨rfl, hw2⟩
    have b2 := same_below hw2
    clear hw2
    have B2 := below_then (B1) b2
    replace RA := Lib.hid ((RA.out).below b2)
    replace RB := Lib.hid ((RB.out).below b2)
    replace RC := Lib.hid ((RC.out).below b2)
    clear B1
    clear b2
    go_wp2_with fail
    refine (is_bool (r := true) hrb (vecRight_any B m d b _ (RB.out))).mono ?_
    rintro e w3 ⟨rfl, hw3⟩
    have b3 := same_below hw3
    clear hw3
    have B3 := below_then (B2) b3
    replace RA := Lib.hid ((RA.out).below b3)
    replace RB := Lib.hid ((RB.out).below b3)
    replace RC := Lib.hid ((RC.out).below b3)
    clear B2
    clear b3
    go_wp2_with fail
    refine (is_bool (r := false) hrk (vecRight_any C p q k _ (RC.out))).mono ?_
    rintro e w4 ⟨rfl, hw4⟩
    have b4 := same_below hw4
    clear hw4
    have B4 := below_then (B3) b4
    replace RA := Lib.hid ((RA.out).below b4)
    replace RB := Lib.hid ((RB.out).below b4)
    replace RC := Lib.hid ((RC.out).below b4)
    clear B3
    clear b4
    go_wp2_with fail
    refine (vecAlive_any _).mono ?_
    rintro e w5 ⟨rfl, b5⟩
    have B5 := below_then (B4) b5
    replace RA := Lib.hid ((RA.out).below b5)
    replace RB := Lib.hid ((RB.out).below b5)
    replace RC := Lib.hid ((RC.out).below b5)
    clear B4
    clear b5
    go_wp2
    go_ret
    exact ⟨rfl, B5⟩
  | true =>
  obtain ⟨jab, kjab, hjab, hkjab, hljab, Hjab⟩ := named_join a b (by rw [hla.out]; omega) (by rw [hlb.out]; omega)
  obtain ⟨mab, kmab, hmab, hkmab, hlmab, Hmab⟩ := named_meet a b (by rw [hla.out]; omega) (by rw [hlb.out]; omega)
  have OJ := order_join a b; have OM := order_meet a b; have OS := order_same a b; have OT := @order_trans a b k
  rw [hjab.out] at OJ
  rw [hmab.out] at OM
  obtain ⟨x, hx⟩ : ∃ x, uptoV a b = x := ⟨_, rfl⟩
  obtain ⟨y, hy⟩ : ∃ y, uptoV b a = y := ⟨_, rfl⟩
  obtain ⟨z, hz⟩ : ∃ z, uptoV b k = z := ⟨_, rfl⟩
  obtain ⟨u, hu⟩ : ∃ u, uptoV a k = u := ⟨_, rfl⟩
  obtain ⟨s, hs⟩ : ∃ s, sameV a b = s := ⟨_, rfl⟩
  rw [hx] at OJ OM
  rw [hx, hy, hs] at OS
  rw [hx, hz, hu] at OT
  have OJ := Lib.hid OJ; have OM := Lib.hid OM; have OS := Lib.hid OS; have OT := Lib.hid OT; have hx := Lib.hid hx; have hy := Lib.hid hy; have hz := Lib.hid hz; have hu := Lib.hid hu; have hs := Lib.hid hs
  have hn4 : n ≤ 4294967296 := by omega
  have hm4 : m ≤ 4294967296 := by omega
  have hp4 : p ≤ 4294967296 := by omega
  clear hf
  cases x with
  | false =>
    obtain rfl : s = false := OS.out.symm
    go_enter Try.func7, Try.ntmps7
    go_wp2_with fail
    refine (is_bool (r := true) hfew (vecFew_any A B n m c d _)).mono ?_
    rintro e w1 ⟨rfl, hw1⟩
    have b1 := same_below hw1
    clear hw1
    have B1 := below_then (Below.refl w.heap.size w) b1
    replace RA := Lib.hid ((RA.out).below b1)
    replace RB := Lib.hid ((RB.out).below b1)
    replace RC := Lib.hid ((RC.out).below b1)
    clear b1
    go_wp2_with fail
    refine (is_bool (r := true) hra (vecRight_any A n c a _ (RA.out))).mono ?_
    rintro e w2 ⟨rfl, hw2⟩
    have b2 := same_below hw2
    clear hw2
    have B2 := below_then (B1) b2
    replace RA := Lib.hid ((RA.out).below b2)
    replace RB := Lib.hid ((RB.out).below b2)
    replace RC := Lib.hid ((RC.out).below b2)
    clear B1
    clear b2
    go_wp2_with fail
    refine (is_bool (r := true) hrb (vecRight_any B m d b _ (RB.out))).mono ?_
    rintro e w3 ⟨rfl, hw3⟩
    have b3 := same_below hw3
    clear hw3
    have B3 := below_then (B2) b3
    replace RA := Lib.hid ((RA.out).below b3)
    replace RB := Lib.hid ((RB.out).below b3)
    replace RC := Lib.hid ((RC.out).below b3)
    clear B2
    clear b3
    go_wp2_with fail
    refine (is_bool (r := true) hrk (vecRight_any C p q k _ (RC.out))).mono ?_
    rintro e w4 ⟨rfl, hw4⟩
    have b4 := same_below hw4
    clear hw4
    have B4 := below_then (B3) b4
    replace RA := Lib.hid ((RA.out).below b4)
    replace RB := Lib.hid ((RB.out).below b4)
    replace RC := Lib.hid ((RC.out).below b4)
    clear B3
    clear b4
    go_wp2_with fail
    refine (is_bool (r := false) hx.out (vecUpto_any A B n m c d a b _ (RA.out) (RB.out))).mono ?_
    rintro e w5 ⟨rfl, hw5⟩
    have b5 := same_below hw5
    clear hw5
    have B5 := below_then (B4) b5
    replace RA := Lib.hid ((RA.out).below b5)
    replace RB := Lib.hid ((RB.out).below b5)
    replace RC := Lib.hid ((RC.out).below b5)
    clear B4
    clear b5
    go_wp2_with fail
    refine (vecAlive_any _).mono ?_
    rintro e w6 ⟨rfl, b6⟩
    have B6 := below_then (B5) b6
    replace RA := Lib.hid ((RA.out).below b6)
    replace RB := Lib.hid ((RB.out).below b6)
    replace RC := Lib.hid ((RC.out).below b6)
    clear B5
    clear b6
    go_wp2_with fail
    refine (vecJoin_is hjab.out hkjab.out (RA.out) (RB.out) hn4 hm4).mono ?_
    rintro e w7 ⟨T7, c7, rfl, r7, b7⟩
    have B7 := below_then (B6) b7
    replace RA := Lib.hid ((RA.out).below b7)
    replace RB := Lib.hid ((RB.out).below b7)
    replace RC := Lib.hid ((RC.out).below b7)
    have Rjab_7 := Lib.hid r7
    clear r7
    clear B6
    clear b7
    go_wp2_with fail
    refine (is_bool (r := false) OJ.out (vecSame_any T7 B kjab m c7 d jab b _ (Rjab_7.out) (RB.out))).mono ?_
    rintro e w8 ⟨rfl, hw8⟩
    have b8 := same_below hw8
    clear hw8
    have B8 := below_then (B7) b8
    replace RA := Lib.hid ((RA.out).below b8)
    replace RB := Lib.hid ((RB.out).below b8)
    replace RC := Lib.hid ((RC.out).below b8)
    clear Rjab_7
    clear B7
    clear b8
    go_wp2_with fail
    refine (vecMeet_is hmab.out hkmab.out (RA.out) (RB.out) hn4 hm4).mono ?_
    rintro e w9 ⟨T9, c9, rfl, r9, b9⟩
    have B9 := below_then (B8) b9
    replace RA := Lib.hid ((RA.out).below b9)
    replace RB := Lib.hid ((RB.out).below b9)
    replace RC := Lib.hid ((RC.out).below b9)
    have Rmab_9 := Lib.hid r9
    clear r9
    clear B8
    clear b9
    go_wp2_with fail
    refine (is_bool (r := false) OM.out (vecSame_any T9 A kmab n c9 c mab a _ (Rmab_9.out) (RA.out))).mono ?_
    rintro e w10 ⟨rfl, hw10⟩
    have b10 := same_below hw10
    clear hw10
    have B10 := below_then (B9) b10
    replace RA := Lib.hid ((RA.out).below b10)
    replace RB := Lib.hid ((RB.out).below b10)
    replace RC := Lib.hid ((RC.out).below b10)
    clear Rmab_9
    clear B9
    clear b10
    go_wp2_with fail
    refine (is_bool (r := false) hs.out (vecSame_any A B n m c d a b _ (RA.out) (RB.out))).mono ?_
    rintro e w11 ⟨rfl, hw11⟩
    have b11 := same_below hw11
    clear hw11
    have B11 := below_then (B10) b11
    replace RA := Lib.hid ((RA.out).below b11)
    replace RB := Lib.hid ((RB.out).below b11)
    replace RC := Lib.hid ((RC.out).below b11)
    clear B10
    clear b11
    go_wp2
    go_ret
    exact ⟨rfl, B11⟩
  | true =>
    obtain rfl : s = y := by have := OS.out; simpa using this.symm
    cases s with
    | false =>
      cases z with
      | false =>
        go_enter Try.func7, Try.ntmps7
        go_wp2_with fail
        refine (is_bool (r := true) hfew (vecFew_any A B n m c d _)).mono ?_
        rintro e w1 ⟨rfl, hw1⟩
        have b1 := same_below hw1
        clear hw1
        have B1 := below_then (Below.refl w.heap.size w) b1
        replace RA := Lib.hid ((RA.out).below b1)
        replace RB := Lib.hid ((RB.out).below b1)
        replace RC := Lib.hid ((RC.out).below b1)
        clear b1
        go_wp2_with fail
        refine (is_bool (r := true) hra (vecRight_any A n c a _ (RA.out))).mono ?_
        rintro e w2 ⟨rfl, hw2⟩
        have b2 := same_below hw2
        clear hw2
        have B2 := below_then (B1) b2
        replace RA := Lib.hid ((RA.out).below b2)
        replace RB := Lib.hid ((RB.out).below b2)
        replace RC := Lib.hid ((RC.out).below b2)
        clear B1
        clear b2
        go_wp2_with fail
        refine (is_bool (r := true) hrb (vecRight_any B m d b _ (RB.out))).mono ?_
        rintro e w3 ⟨rfl, hw3⟩
        have b3 := same_below hw3
        clear hw3
        have B3 := below_then (B2) b3
        replace RA := Lib.hid ((RA.out).below b3)
        replace RB := Lib.hid ((RB.out).below b3)
        replace RC := Lib.hid ((RC.out).below b3)
        clear B2
        clear b3
        go_wp2_with fail
        refine (is_bool (r := true) hrk (vecRight_any C p q k _ (RC.out))).mono ?_
        rintro e w4 ⟨rfl, hw4⟩
        have b4 := same_below hw4
        clear hw4
        have B4 := below_then (B3) b4
        replace RA := Lib.hid ((RA.out).below b4)
        replace RB := Lib.hid ((RB.out).below b4)
        replace RC := Lib.hid ((RC.out).below b4)
        clear B3
        clear b4
        go_wp2_with fail
        refine (is_bool (r := true) hx.out (vecUpto_any A B n m c d a b _ (RA.out) (RB.out))).mono ?_
        rintro e w5 ⟨rfl, hw5⟩
        have b5 := same_below hw5
        clear hw5
        have B5 := below_then (B4) b5
        replace RA := Lib.hid ((RA.out).below b5)
        replace RB := Lib.hid ((RB.out).below b5)
        replace RC := Lib.hid ((RC.out).below b5)
        clear B4
        clear b5
        go_wp2_with fail
        refine (vecAlive_any _).mono ?_
        rintro e w6 ⟨rfl, b6⟩
        have B6 := below_then (B5) b6
        replace RA := Lib.hid ((RA.out).below b6)
        replace RB := Lib.hid ((RB.out).below b6)
        replace RC := Lib.hid ((RC.out).below b6)
        clear B5
        clear b6
        go_wp2_with fail
        refine (vecJoin_is hjab.out hkjab.out (RA.out) (RB.out) hn4 hm4).mono ?_
        rintro e w7 ⟨T7, c7, rfl, r7, b7⟩
        have B7 := below_then (B6) b7
        replace RA := Lib.hid ((RA.out).below b7)
        replace RB := Lib.hid ((RB.out).below b7)
        replace RC := Lib.hid ((RC.out).below b7)
        have Rjab_7 := Lib.hid r7
        clear r7
        clear B6
        clear b7
        go_wp2_with fail
        refine (is_bool (r := true) OJ.out (vecSame_any T7 B kjab m c7 d jab b _ (Rjab_7.out) (RB.out))).mono ?_
        rintro e w8 ⟨rfl, hw8⟩
        have b8 := same_below hw8
        clear hw8
        have B8 := below_then (B7) b8
        replace RA := Lib.hid ((RA.out).below b8)
        replace RB := Lib.hid ((RB.out).below b8)
        replace RC := Lib.hid ((RC.out).below b8)
        clear Rjab_7
        clear B7
        clear b8
        go_wp2_with fail
        refine (vecMeet_is hmab.out hkmab.out (RA.out) (RB.out) hn4 hm4).mono ?_
        rintro e w9 ⟨T9, c9, rfl, r9, b9⟩
        have B9 := below_then (B8) b9
        replace RA := Lib.hid ((RA.out).below b9)
        replace RB := Lib.hid ((RB.out).below b9)
        replace RC := Lib.hid ((RC.out).below b9)
        have Rmab_9 := Lib.hid r9
        clear r9
        clear B8
        clear b9
        go_wp2_with fail
        refine (is_bool (r := true) OM.out (vecSame_any T9 A kmab n c9 c mab a _ (Rmab_9.out) (RA.out))).mono ?_
        rintro e w10 ⟨rfl, hw10⟩
        have b10 := same_below hw10
        clear hw10
        have B10 := below_then (B9) b10
        replace RA := Lib.hid ((RA.out).below b10)
        replace RB := Lib.hid ((RB.out).below b10)
        replace RC := Lib.hid ((RC.out).below b10)
        clear Rmab_9
        clear B9
        clear b10
        go_wp2_with fail
        refine (is_bool (r := false) hy.out (vecUpto_any B A m n d c b a _ (RB.out) (RA.out))).mono ?_
        rintro e w11 ⟨rfl, hw11⟩
        have b11 := same_below hw11
        clear hw11
        have B11 := below_then (B10) b11
        replace RA := Lib.hid ((RA.out).below b11)
        replace RB := Lib.hid ((RB.out).below b11)
        replace RC := Lib.hid ((RC.out).below b11)
        clear B10
        clear b11
        go_wp2_with fail
        refine (is_bool (r := false) hs.out (vecSame_any A B n m c d a b _ (RA.out) (RB.out))).mono ?_
        rintro e w12 ⟨rfl, hw12⟩
        have b12 := same_below hw12
        clear hw12
        have B12 := below_then (B11) b12
        replace RA := Lib.hid ((RA.out).below b12)
        replace RB := Lib.hid ((RB.out).below b12)
        replace RC := Lib.hid ((RC.out).below b12)
        clear B11
        clear b12
        go_wp2_with fail
        refine (is_bool (r := false) hz.out (vecUpto_any B C m p d q b k _ (RB.out) (RC.out))).mono ?_
        rintro e w13 ⟨rfl, hw13⟩
        have b13 := same_below hw13
        clear hw13
        have B13 := below_then (B12) b13
        replace RA := Lib.hid ((RA.out).below b13)
        replace RB := Lib.hid ((RB.out).below b13)
        replace RC := Lib.hid ((RC.out).below b13)
        clear B12
        clear b13
        go_wp2
        go_ret
        exact ⟨rfl, B13⟩
      | true =>
        obtain rfl : u = true := OT.out rfl rfl
        go_enter Try.func7, Try.ntmps7
        go_wp2_with fail
        refine (is_bool (r := true) hfew (vecFew_any A B n m c d _)).mono ?_
        rintro e w1 ⟨rfl, hw1⟩
        have b1 := same_below hw1
        clear hw1
        have B1 := below_then (Below.refl w.heap.size w) b1
        replace RA := Lib.hid ((RA.out).below b1)
        replace RB := Lib.hid ((RB.out).below b1)
        replace RC := Lib.hid ((RC.out).below b1)
        clear b1
        go_wp2_with fail
        refine (is_bool (r := true) hra (vecRight_any A n c a _ (RA.out))).mono ?_
        rintro e w2 ⟨rfl, hw2⟩
        have b2 := same_below hw2
        clear hw2
        have B2 := below_then (B1) b2
        replace RA := Lib.hid ((RA.out).below b2)
        replace RB := Lib.hid ((RB.out).below b2)
        replace RC := Lib.hid ((RC.out).below b2)
        clear B1
        clear b2
        go_wp2_with fail
        refine (is_bool (r := true) hrb (vecRight_any B m d b _ (RB.out))).mono ?_
        rintro e w3 ⟨rfl, hw3⟩
        have b3 := same_below hw3
        clear hw3
        have B3 := below_then (B2) b3
        replace RA := Lib.hid ((RA.out).below b3)
        replace RB := Lib.hid ((RB.out).below b3)
        replace RC := Lib.hid ((RC.out).below b3)
        clear B2
        clear b3
        go_wp2_with fail
        refine (is_bool (r := true) hrk (vecRight_any C p q k _ (RC.out))).mono ?_
        rintro e w4 ⟨rfl, hw4⟩
        have b4 := same_below hw4
        clear hw4
        have B4 := below_then (B3) b4
        replace RA := Lib.hid ((RA.out).below b4)
        replace RB := Lib.hid ((RB.out).below b4)
        replace RC := Lib.hid ((RC.out).below b4)
        clear B3
        clear b4
        go_wp2_with fail
        refine (is_bool (r := true) hx.out (vecUpto_any A B n m c d a b _ (RA.out) (RB.out))).mono ?_
        rintro e w5 ⟨rfl, hw5⟩
        have b5 := same_below hw5
        clear hw5
        have B5 := below_then (B4) b5
        replace RA := Lib.hid ((RA.out).below b5)
        replace RB := Lib.hid ((RB.out).below b5)
        replace RC := Lib.hid ((RC.out).below b5)
        clear B4
        clear b5
        go_wp2_with fail
        refine (vecAlive_any _).mono ?_
        rintro e w6 ⟨rfl, b6⟩
        have B6 := below_then (B5) b6
        replace RA := Lib.hid ((RA.out).below b6)
        replace RB := Lib.hid ((RB.out).below b6)
        replace RC := Lib.hid ((RC.out).below b6)
        clear B5
        clear b6
        go_wp2_with fail
        refine (vecJoin_is hjab.out hkjab.out (RA.out) (RB.out) hn4 hm4).mono ?_
        rintro e w7 ⟨T7, c7, rfl, r7, b7⟩
        have B7 := below_then (B6) b7
        replace RA := Lib.hid ((RA.out).below b7)
        replace RB := Lib.hid ((RB.out).below b7)
        replace RC := Lib.hid ((RC.out).below b7)
        have Rjab_7 := Lib.hid r7
        clear r7
        clear B6
        clear b7
        go_wp2_with fail
        refine (is_bool (r := true) OJ.out (vecSame_any T7 B kjab m c7 d jab b _ (Rjab_7.out) (RB.out))).mono ?_
        rintro e w8 ⟨rfl, hw8⟩
        have b8 := same_below hw8
        clear hw8
        have B8 := below_then (B7) b8
        replace RA := Lib.hid ((RA.out).below b8)
        replace RB := Lib.hid ((RB.out).below b8)
        replace RC := Lib.hid ((RC.out).below b8)
        clear Rjab_7
        clear B7
        clear b8
        go_wp2_with fail
        refine (vecMeet_is hmab.out hkmab.out (RA.out) (RB.out) hn4 hm4).mono ?_
        rintro e w9 ⟨T9, c9, rfl, r9, b9⟩
        have B9 := below_then (B8) b9
        replace RA := Lib.hid ((RA.out).below b9)
        replace RB := Lib.hid ((RB.out).below b9)
        replace RC := Lib.hid ((RC.out).below b9)
        have Rmab_9 := Lib.hid r9
        clear r9
        clear B8
        clear b9
        go_wp2_with fail
        refine (is_bool (r := true) OM.out (vecSame_any T9 A kmab n c9 c mab a _ (Rmab_9.out) (RA.out))).mono ?_
        rintro e w10 ⟨rfl, hw10⟩
        have b10 := same_below hw10
        clear hw10
        have B10 := below_then (B9) b10
        replace RA := Lib.hid ((RA.out).below b10)
        replace RB := Lib.hid ((RB.out).below b10)
        replace RC := Lib.hid ((RC.out).below b10)
        clear Rmab_9
        clear B9
        clear b10
        go_wp2_with fail
        refine (is_bool (r := false) hy.out (vecUpto_any B A m n d c b a _ (RB.out) (RA.out))).mono ?_
        rintro e w11 ⟨rfl, hw11⟩
        have b11 := same_below hw11
        clear hw11
        have B11 := below_then (B10) b11
        replace RA := Lib.hid ((RA.out).below b11)
        replace RB := Lib.hid ((RB.out).below b11)
        replace RC := Lib.hid ((RC.out).below b11)
        clear B10
        clear b11
        go_wp2_with fail
        refine (is_bool (r := false) hs.out (vecSame_any A B n m c d a b _ (RA.out) (RB.out))).mono ?_
        rintro e w12 ⟨rfl, hw12⟩
        have b12 := same_below hw12
        clear hw12
        have B12 := below_then (B11) b12
        replace RA := Lib.hid ((RA.out).below b12)
        replace RB := Lib.hid ((RB.out).below b12)
        replace RC := Lib.hid ((RC.out).below b12)
        clear B11
        clear b12
        go_wp2_with fail
        refine (is_bool (r := true) hz.out (vecUpto_any B C m p d q b k _ (RB.out) (RC.out))).mono ?_
        rintro e w13 ⟨rfl, hw13⟩
        have b13 := same_below hw13
        clear hw13
        have B13 := below_then (B12) b13
        replace RA := Lib.hid ((RA.out).below b13)
        replace RB := Lib.hid ((RB.out).below b13)
        replace RC := Lib.hid ((RC.out).below b13)
        clear B12
        clear b13
        go_wp2_with fail
        refine (is_bool (r := true) hu.out (vecUpto_any A C n p c q a k _ (RA.out) (RC.out))).mono ?_
        rintro e w14 ⟨rfl, hw14⟩
        have b14 := same_below hw14
        clear hw14
        have B14 := below_then (B13) b14
        replace RA := Lib.hid ((RA.out).below b14)
        replace RB := Lib.hid ((RB.out).below b14)
        replace RC := Lib.hid ((RC.out).below b14)
        clear B13
        clear b14
        go_wp2
        go_ret
        exact ⟨rfl, B14⟩
    | true =>
      cases z with
      | false =>
        go_enter Try.func7, Try.ntmps7
        go_wp2_with fail
        refine (is_bool (r := true) hfew (vecFew_any A B n m c d _)).mono ?_
        rintro e w1 ⟨rfl, hw1⟩
        have b1 := same_below hw1
        clear hw1
        have B1 := below_then (Below.refl w.heap.size w) b1
        replace RA := Lib.hid ((RA.out).below b1)
        replace RB := Lib.hid ((RB.out).below b1)
        replace RC := Lib.hid ((RC.out).below b1)
        clear b1
        go_wp2_with fail
        refine (is_bool (r := true) hra (vecRight_any A n c a _ (RA.out))).mono ?_
        rintro e w2 ⟨rfl, hw2⟩
        have b2 := same_below hw2
        clear hw2
        have B2 := below_then (B1) b2
        replace RA := Lib.hid ((RA.out).below b2)
        replace RB := Lib.hid ((RB.out).below b2)
        replace RC := Lib.hid ((RC.out).below b2)
        clear B1
        clear b2
        go_wp2_with fail
        refine (is_bool (r := true) hrb (vecRight_any B m d b _ (RB.out))).mono ?_
        rintro e w3 ⟨rfl, hw3⟩
        have b3 := same_below hw3
        clear hw3
        have B3 := below_then (B2) b3
        replace RA := Lib.hid ((RA.out).below b3)
        replace RB := Lib.hid ((RB.out).below b3)
        replace RC := Lib.hid ((RC.out).below b3)
        clear B2
        clear b3
        go_wp2_with fail
        refine (is_bool (r := true) hrk (vecRight_any C p q k _ (RC.out))).mono ?_
        rintro e w4 ⟨rfl, hw4⟩
        have b4 := same_below hw4
        clear hw4
        have B4 := below_then (B3) b4
        replace RA := Lib.hid ((RA.out).below b4)
        replace RB := Lib.hid ((RB.out).below b4)
        replace RC := Lib.hid ((RC.out).below b4)
        clear B3
        clear b4
        go_wp2_with fail
        refine (is_bool (r := true) hx.out (vecUpto_any A B n m c d a b _ (RA.out) (RB.out))).mono ?_
        rintro e w5 ⟨rfl, hw5⟩
        have b5 := same_below hw5
        clear hw5
        have B5 := below_then (B4) b5
        replace RA := Lib.hid ((RA.out).below b5)
        replace RB := Lib.hid ((RB.out).below b5)
        replace RC := Lib.hid ((RC.out).below b5)
        clear B4
        clear b5
        go_wp2_with fail
        refine (vecAlive_any _).mono ?_
        rintro e w6 ⟨rfl, b6⟩
        have B6 := below_then (B5) b6
        replace RA := Lib.hid ((RA.out).below b6)
        replace RB := Lib.hid ((RB.out).below b6)
        replace RC := Lib.hid ((RC.out).below b6)
        clear B5
        clear b6
        go_wp2_with fail
        refine (vecJoin_is hjab.out hkjab.out (RA.out) (RB.out) hn4 hm4).mono ?_
        rintro e w7 ⟨T7, c7, rfl, r7, b7⟩
        have B7 := below_then (B6) b7
        replace RA := Lib.hid ((RA.out).below b7)
        replace RB := Lib.hid ((RB.out).below b7)
        replace RC := Lib.hid ((RC.out).below b7)
        have Rjab_7 := Lib.hid r7
        clear r7
        clear B6
        clear b7
        go_wp2_with fail
        refine (is_bool (r := true) OJ.out (vecSame_any T7 B kjab m c7 d jab b _ (Rjab_7.out) (RB.out))).mono ?_
        rintro e w8 ⟨rfl, hw8⟩
        have b8 := same_below hw8
        clear hw8
        have B8 := below_then (B7) b8
        replace RA := Lib.hid ((RA.out).below b8)
        replace RB := Lib.hid ((RB.out).below b8)
        replace RC := Lib.hid ((RC.out).below b8)
        clear Rjab_7
        clear B7
        clear b8
        go_wp2_with fail
        refine (vecMeet_is hmab.out hkmab.out (RA.out) (RB.out) hn4 hm4).mono ?_
        rintro e w9 ⟨T9, c9, rfl, r9, b9⟩
        have B9 := below_then (B8) b9
        replace RA := Lib.hid ((RA.out).below b9)
        replace RB := Lib.hid ((RB.out).below b9)
        replace RC := Lib.hid ((RC.out).below b9)
        have Rmab_9 := Lib.hid r9
        clear r9
        clear B8
        clear b9
        go_wp2_with fail
        refine (is_bool (r := true) OM.out (vecSame_any T9 A kmab n c9 c mab a _ (Rmab_9.out) (RA.out))).mono ?_
        rintro e w10 ⟨rfl, hw10⟩
        have b10 := same_below hw10
        clear hw10
        have B10 := below_then (B9) b10
        replace RA := Lib.hid ((RA.out).below b10)
        replace RB := Lib.hid ((RB.out).below b10)
        replace RC := Lib.hid ((RC.out).below b10)
        clear Rmab_9
        clear B9
        clear b10
        go_wp2_with fail
        refine (is_bool (r := true) hy.out (vecUpto_any B A m n d c b a _ (RB.out) (RA.out))).mono ?_
        rintro e w11 ⟨rfl, hw11⟩
        have b11 := same_below hw11
        clear hw11
        have B11 := below_then (B10) b11
        replace RA := Lib.hid ((RA.out).below b11)
        replace RB := Lib.hid ((RB.out).below b11)
        replace RC := Lib.hid ((RC.out).below b11)
        clear B10
        clear b11
        go_wp2_with fail
        refine (is_bool (r := true) hs.out (vecSame_any A B n m c d a b _ (RA.out) (RB.out))).mono ?_
        rintro e w12 ⟨rfl, hw12⟩
        have b12 := same_below hw12
        clear hw12
        have B12 := below_then (B11) b12
        replace RA := Lib.hid ((RA.out).below b12)
        replace RB := Lib.hid ((RB.out).below b12)
        replace RC := Lib.hid ((RC.out).below b12)
        clear B11
        clear b12
        go_wp2_with fail
        refine (is_bool (r := false) hz.out (vecUpto_any B C m p d q b k _ (RB.out) (RC.out))).mono ?_
        rintro e w13 ⟨rfl, hw13⟩
        have b13 := same_below hw13
        clear hw13
        have B13 := below_then (B12) b13
        replace RA := Lib.hid ((RA.out).below b13)
        replace RB := Lib.hid ((RB.out).below b13)
        replace RC := Lib.hid ((RC.out).below b13)
        clear B12
        clear b13
        go_wp2
        go_ret
        exact ⟨rfl, B13⟩
      | true =>
        obtain rfl : u = true := OT.out rfl rfl
        go_enter Try.func7, Try.ntmps7
        go_wp2_with fail
        refine (is_bool (r := true) hfew (vecFew_any A B n m c d _)).mono ?_
        rintro e w1 ⟨rfl, hw1⟩
        have b1 := same_below hw1
        clear hw1
        have B1 := below_then (Below.refl w.heap.size w) b1
        replace RA := Lib.hid ((RA.out).below b1)
        replace RB := Lib.hid ((RB.out).below b1)
        replace RC := Lib.hid ((RC.out).below b1)
        clear b1
        go_wp2_with fail
        refine (is_bool (r := true) hra (vecRight_any A n c a _ (RA.out))).mono ?_
        rintro e w2 ⟨rfl, hw2⟩
        have b2 := same_below hw2
        clear hw2
        have B2 := below_then (B1) b2
        replace RA := Lib.hid ((RA.out).below b2)
        replace RB := Lib.hid ((RB.out).below b2)
        replace RC := Lib.hid ((RC.out).below b2)
        clear B1
        clear b2
        go_wp2_with fail
        refine (is_bool (r := true) hrb (vecRight_any B m d b _ (RB.out))).mono ?_
        rintro e w3 ⟨rfl, hw3⟩
        have b3 := same_below hw3
        clear hw3
        have B3 := below_then (B2) b3
        replace RA := Lib.hid ((RA.out).below b3)
        replace RB := Lib.hid ((RB.out).below b3)
        replace RC := Lib.hid ((RC.out).below b3)
        clear B2
        clear b3
        go_wp2_with fail
        refine (is_bool (r := true) hrk (vecRight_any C p q k _ (RC.out))).mono ?_
        rintro e w4 ⟨rfl, hw4⟩
        have b4 := same_below hw4
        clear hw4
        have B4 := below_then (B3) b4
        replace RA := Lib.hid ((RA.out).below b4)
        replace RB := Lib.hid ((RB.out).below b4)
        replace RC := Lib.hid ((RC.out).below b4)
        clear B3
        clear b4
        go_wp2_with fail
        refine (is_bool (r := true) hx.out (vecUpto_any A B n m c d a b _ (RA.out) (RB.out))).mono ?_
        rintro e w5 ⟨rfl, hw5⟩
        have b5 := same_below hw5
        clear hw5
        have B5 := below_then (B4) b5
        replace RA := Lib.hid ((RA.out).below b5)
        replace RB := Lib.hid ((RB.out).below b5)
        replace RC := Lib.hid ((RC.out).below b5)
        clear B4
        clear b5
        go_wp2_with fail
        refine (vecAlive_any _).mono ?_
        rintro e w6 ⟨rfl, b6⟩
        have B6 := below_then (B5) b6
        replace RA := Lib.hid ((RA.out).below b6)
        replace RB := Lib.hid ((RB.out).below b6)
        replace RC := Lib.hid ((RC.out).below b6)
        clear B5
        clear b6
        go_wp2_with fail
        refine (vecJoin_is hjab.out hkjab.out (RA.out) (RB.out) hn4 hm4).mono ?_
        rintro e w7 ⟨T7, c7, rfl, r7, b7⟩
        have B7 := below_then (B6) b7
        replace RA := Lib.hid ((RA.out).below b7)
        replace RB := Lib.hid ((RB.out).below b7)
        replace RC := Lib.hid ((RC.out).below b7)
        have Rjab_7 := Lib.hid r7
        clear r7
        clear B6
        clear b7
        go_wp2_with fail
        refine (is_bool (r := true) OJ.out (vecSame_any T7 B kjab m c7 d jab b _ (Rjab_7.out) (RB.out))).mono ?_
        rintro e w8 ⟨rfl, hw8⟩
        have b8 := same_below hw8
        clear hw8
        have B8 := below_then (B7) b8
        replace RA := Lib.hid ((RA.out).below b8)
        replace RB := Lib.hid ((RB.out).below b8)
        replace RC := Lib.hid ((RC.out).below b8)
        clear Rjab_7
        clear B7
        clear b8
        go_wp2_with fail
        refine (vecMeet_is hmab.out hkmab.out (RA.out) (RB.out) hn4 hm4).mono ?_
        rintro e w9 ⟨T9, c9, rfl, r9, b9⟩
        have B9 := below_then (B8) b9
        replace RA := Lib.hid ((RA.out).below b9)
        replace RB := Lib.hid ((RB.out).below b9)
        replace RC := Lib.hid ((RC.out).below b9)
        have Rmab_9 := Lib.hid r9
        clear r9
        clear B8
        clear b9
        go_wp2_with fail
        refine (is_bool (r := true) OM.out (vecSame_any T9 A kmab n c9 c mab a _ (Rmab_9.out) (RA.out))).mono ?_
        rintro e w10 ⟨rfl, hw10⟩
        have b10 := same_below hw10
        clear hw10
        have B10 := below_then (B9) b10
        replace RA := Lib.hid ((RA.out).below b10)
        replace RB := Lib.hid ((RB.out).below b10)
        replace RC := Lib.hid ((RC.out).below b10)
        clear Rmab_9
        clear B9
        clear b10
        go_wp2_with fail
        refine (is_bool (r := true) hy.out (vecUpto_any B A m n d c b a _ (RB.out) (RA.out))).mono ?_
        rintro e w11 ⟨rfl, hw11⟩
        have b11 := same_below hw11
        clear hw11
        have B11 := below_then (B10) b11
        replace RA := Lib.hid ((RA.out).below b11)
        replace RB := Lib.hid ((RB.out).below b11)
        replace RC := Lib.hid ((RC.out).below b11)
        clear B10
        clear b11
        go_wp2_with fail
        refine (is_bool (r := true) hs.out (vecSame_any A B n m c d a b _ (RA.out) (RB.out))).mono ?_
        rintro e w12 ⟨rfl, hw12⟩
        have b12 := same_below hw12
        clear hw12
        have B12 := below_then (B11) b12
        replace RA := Lib.hid ((RA.out).below b12)
        replace RB := Lib.hid ((RB.out).below b12)
        replace RC := Lib.hid ((RC.out).below b12)
        clear B11
        clear b12
        go_wp2_with fail
        refine (is_bool (r := true) hz.out (vecUpto_any B C m p d q b k _ (RB.out) (RC.out))).mono ?_
        rintro e w13 ⟨rfl, hw13⟩
        have b13 := same_below hw13
        clear hw13
        have B13 := below_then (B12) b13
        replace RA := Lib.hid ((RA.out).below b13)
        replace RB := Lib.hid ((RB.out).below b13)
        replace RC := Lib.hid ((RC.out).below b13)
        clear B12
        clear b13
        go_wp2_with fail
        refine (is_bool (r := true) hu.out (vecUpto_any A C n p c q a k _ (RA.out) (RC.out))).mono ?_
        rintro e w14 ⟨rfl, hw14⟩
        have b14 := same_below hw14
        clear hw14
        have B14 := below_then (B13) b14
        replace RA := Lib.hid ((RA.out).below b14)
        replace RB := Lib.hid ((RB.out).below b14)
        replace RC := Lib.hid ((RC.out).below b14)
        clear B13
        clear b14
        go_wp2
        go_ret
        exact ⟨rfl, B14⟩

theorem contract (H : Type) (enc : TypeId × Value → H) (W : World) (base : Nat) (args : Array Value) (ds gs : List (DataW H)) (before : List MemPlace)
    (hval : ∀ (j : Nat) t v, Try.f7.params[j]? = some t → args[j]? = some v → Value.okWide Try.prog W .any base t v)
    (hW : DataW.Whole enc Try.prog Try.f7.params.toList Rows.vectorOrderSpec.vars false W args.toList ds gs before) :
    Calls Try.prog 7 args W fun e W' => ∃ v, e = .returned v ∧ Rows.vectorOrderSpec.post enc Try.prog Try.f7 false true false false W args v W' := by
  have hlt : ∀ x ∈ before, x.block < W.heap.size := fun x hx => by simpa using hW.lt x hx
  refine law_step 4 Try.laid_ (by kernel_rfl) rfl Try.underlying4 rfl hW (fun xs hx => ?_) ?_
  · match xs, hx with
    | [d0, d1, d2], _ => rfl
  · obtain ⟨p, q, hA0, hV, rfl, _, _⟩ := hW
    have hA : DataW.TrodAll enc Try.prog W 0 (fun _ => true) true Try.f7.params.toList args.toList ds p := hA0
    rw [Try.params7] at hA hval
    obtain ⟨v0, vs0, d0, ds0, p0, q0, e0, rfl, rfl, h0, r0⟩ := trodAll_cons hA
    obtain ⟨v1, vs1, d1, ds1, p1, q1, e1, rfl, rfl, h1, r1⟩ := trodAll_cons r0
    obtain ⟨v2, vs2, d2, ds2, p2, q2, e2, rfl, rfl, h2, r2⟩ := trodAll_cons r1
    obtain ⟨rfl, rfl, rfl⟩ := trodAll_nil r2
    subst e2
    subst e1
    obtain rfl : args = #[v0, v1, v2] := by cases args; simp_all
    clear e0 hA0
    obtain ⟨A0, n0, c0, a, rfl, rd0, wf0⟩ := open_vec (hval 0 23 v0 rfl rfl) h0 (fun x hx => hlt x (by simp [hx]))
    obtain ⟨A1, n1, c1, b, rfl, rd1, wf1⟩ := open_vec (hval 1 23 v1 rfl rfl) h1 (fun x hx => hlt x (by simp [hx]))
    obtain ⟨A2, n2, c2, k, rfl, rd2, wf2⟩ := open_vec (hval 2 23 v2 rfl rfl) h2 (fun x hx => hlt x (by simp [hx]))
    exact walk A0 A1 A2 n0 c0 n1 c1 n2 c2 a b k W rd0 rd1 rd2

set_option maxRecDepth 100000 in
theorem lifted (os : Os) (started : os.Started) (H : Type) (enc : TypeId × Value → H) :
    ReturnsInHanded {} Try.checked os 7 .any (Rows.vectorOrderSpec.pre6 enc Try.prog Try.f7 Rows.vectorOrderRow.domain false) (Rows.vectorOrderSpec.post enc Try.prog Try.f7 false true false false) := by
  refine returnsInHanded_of_change (C := Try.checked) Try.own_ started (by kernel_rfl) Try.func7
    (ChangeSpec.witness6 (enc := enc) (C := Try.checked) false ⟨#[], #[.slice none 0 0, .slice none 0 0, .slice none 0 0], []⟩ 8 (by kernel_rfl) (by kernel_rfl) (by kernel_rfl) (by kernel_rfl)) ?_
  intro W base args ds gs before hval hW _ _
  exact contract H enc W base args ds gs before hval hW

theorem holds : Rows.VectorOrderSaid :=
  OpenClaim.holds_of_wide 7 Try.f7 rfl rfl rfl rfl rfl rfl rfl ⟨rfl, rfl, rfl, rfl, rfl⟩ rfl rfl rfl rfl rfl (by kernel_rfl) Try.func7 (by kernel_rfl)
    (of_decide_eq_true (by kernel_rfl)) (by unfold Func.isWrapper; first | (rw [if_pos (by decide +kernel)]; kernel_rfl) | (rw [if_neg (by decide +kernel)]; exact ⟨rfl, rfl⟩))
    (fun os started H enc _ => lifted os started H enc)
end Go.Proofs.Ytefbgbciaiedeaa.vectorOrder
