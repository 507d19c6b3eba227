/- Whatever vectors come in: VectorLattice answers true: Join and Meet hang not on order, nor on how three are put together; each takes the other one in. No condition. -/
import Derived.Test.YtefbgbciaiedeaaRows
import Derived.Test.YtefbgbciaiedeaaLaw
import Derived.Test.YtefbgbciaiedeaaVecAlive
import Derived.Test.YtefbgbciaiedeaaVecOpen
import Derived.Test.YtefbgbciaiedeaaVecLaw
namespace Go.Proofs.Ytefbgbciaiedeaa.vectorLattice
open Go.ChangeShapes Go.WideShapes Go.ChangeAt Go.RowKit Go.ChangeMaps

set_option maxRecDepth 100000 in
set_option maxHeartbeats 12800000 in
theorem walk (A B C : Option Addr) (n c m d p q : Nat) (a b k : List Int) (w : World) (ha : Rd w A n c (vals .i64 a)) (hb : Rd w B m d (vals .i64 b)) (hc : Rd w C p q (vals .i64 k)) :
    Calls Try.prog 6 #[.slice A n c, .slice B m d, .slice C p q] w fun e w' => e = .returned (.bool true) ∧ Below w.heap.size w w' := by
  have RA := Lib.hid ha; have RB := Lib.hid hb; have RC := Lib.hid hc
  have hla := Lib.hid (show a.length = n by simpa using ha.len); have hlb := Lib.hid (show b.length = m by simpa using hb.len); have hlk := Lib.hid (show k.length = p by simpa using hc.len)
  clear ha hb hc
  by_cases hf : n ≤ 100 ∧ m ≤ 100
  rotate_left
  · have hfew : (decide (n ≤ 100) && decide (m ≤ 100)) = false := by
      by_cases h1 : n ≤ 100 <;> by_cases h2 : m ≤ 100 <;> simp [h1, h2] <;> omega
    clear hf
    go_enter Try.func6, Try.ntmps6
    go_wp2_with fail
    refine (is_bool (r := false) hfew (vecFew_any A B n m c d _)).mono ?_
    rintro e w1 ⟨rfl, hw1⟩
    have b1 := same_below hw1
    clear hw1
    have B1 := below_then (Below.refl w.heap.size w) b1
    replace RA := Lib.hid ((RA.out).below b1)
    replace RB := Lib.hid ((RB.out).below b1)
    replace RC := Lib.hid ((RC.out).below b1)
    clear b1
    go_wp2_with fail
    refine (vecAlive_any _).mono ?_
    rintro e w2 ⟨rfl, b2⟩
    have B2 := below_then (B1) b2
    replace RA := Lib.hid ((RA.out).below b2)
    replace RB := Lib.hid ((RB.out).below b2)
    replace RC := Lib.hid ((RC.out).below b2)
    clear B1
    clear b2
    go_wp2
    go_ret
    exact ⟨rfl, B2⟩
  have hfew : (decide (n ≤ 100) && decide (m ≤ 100)) = true := by simp [hf.1, hf.2]
  by_cases hp : p ≤ 100
  rotate_left
  · have hpz : (100 : Int) < (p : Int) := by omega
    clear hf
    go_enter Try.func6, Try.ntmps6
    go_wp2_with fail
    refine (is_bool (r := true) hfew (vecFew_any A B n m c d _)).mono ?_
    rintro e w1 ⟨rfl, hw1⟩
    have b1 := same_below hw1
    clear hw1
    have B1 := below_then (Below.refl w.heap.size w) b1
    replace RA := Lib.hid ((RA.out).below b1)
    replace RB := Lib.hid ((RB.out).below b1)
    replace RC := Lib.hid ((RC.out).below b1)
    clear b1
    go_wp2_with fail
    refine (vecAlive_any _).mono ?_
    rintro e w2 ⟨rfl, b2⟩
    have B2 := below_then (B1) b2
    replace RA := Lib.hid ((RA.out).below b2)
    replace RB := Lib.hid ((RB.out).below b2)
    replace RC := Lib.hid ((RC.out).below b2)
    clear B1
    clear b2
    go_wp2
    go_ret
    exact ⟨rfl, B2⟩
  have hpz : ¬ (100 : Int) < (p : Int) := by omega
  cases hra : rightV a with
  | false =>
    clear hf
    go_enter Try.func6, Try.ntmps6
    go_wp2_with fail
    refine (is_bool (r := true) hfew (vecFew_any A B n m c d _)).mono ?_
    rintro e w1 ⟨rfl, hw1⟩
    have b1 := same_below hw1
    clear hw1
    have B1 := below_then (Below.refl w.heap.size w) b1
    replace RA := Lib.hid ((RA.out).below b1)
    replace RB := Lib.hid ((RB.out).below b1)
    replace RC := Lib.hid ((RC.out).below b1)
    clear b1
    go_wp2_with fail
    refine (is_bool (r := false) hra (vecRight_any A n c a _ (RA.out))).mono ?_
    rintro e w2 ⟨rfl, hw2⟩
    have b2 := same_below hw2
    clear hw2
    have B2 := below_then (B1) b2
    replace RA := Lib.hid ((RA.out).below b2)
    replace RB := Lib.hid ((RB.out).below b2)
    replace RC := Lib.hid ((RC.out).below b2)
    clear B1
    clear b2
    go_wp2_with fail
    refine (vecAlive_any _).mono ?_
    rintro e w3 ⟨rfl, b3⟩
    have B3 := below_then (B2) b3
    replace RA := Lib.hid ((RA.out).below b3)
    replace RB := Lib.hid ((RB.out).below b3)
    replace RC := Lib.hid ((RC.out).below b3)
    clear B2
    clear b3
    go_wp2
    go_ret
    exact ⟨rfl, B3⟩
  | true =>
  cases hrb : rightV b with
  | false =>
    clear hf
    go_enter Try.func6, Try.ntmps6
    go_wp2_with fail
    refine (is_bool (r := true) hfew (vecFew_any A B n m c d _)).mono ?_
    rintro e w1 ⟨rfl, hw1⟩
    have b1 := same_below hw1
    clear hw1
    have B1 := below_then (Below.refl w.heap.size w) b1
    replace RA := Lib.hid ((RA.out).below b1)
    replace RB := Lib.hid ((RB.out).below b1)
    replace RC := Lib.hid ((RC.out).below b1)
    clear b1
    go_wp2_with fail
    refine (is_bool (r := true) hra (vecRight_any A n c a _ (RA.out))).mono ?_
    rintro e w2 ⟨rfl, hw2⟩
    have b2 := same_below hw2
    clear hw2
    have B2 := below_then (B1) b2
    replace RA := Lib.hid ((RA.out).below b2)
    replace RB := Lib.hid ((RB.out).below b2)
    replace RC := Lib.hid ((RC.out).below b2)
    clear B1
    clear b2
    go_wp2_with fail
    refine (is_bool (r := false) hrb (vecRight_any B m d b _ (RB.out))).mono ?_
    rintro e w3 ⟨rfl, hw3⟩
    have b3 := same_below hw3
    clear hw3
    have B3 := below_then (B2) b3
    replace RA := Lib.hid ((RA.out).below b3)
    replace RB := Lib.hid ((RB.out).below b3)
    replace RC := Lib.hid ((RC.out).below b3)
    clear B2
    clear b3
    go_wp2_with fail
    refine (vecAlive_any _).mono ?_
    rintro e w4 ⟨rfl, b4⟩
    have B4 := below_then (B3) b4
    replace RA := Lib.hid ((RA.out).below b4)
    replace RB := Lib.hid ((RB.out).below b4)
    replace RC := Lib.hid ((RC.out).below b4)
    clear B3
    clear b4
    go_wp2
    go_ret
    exact ⟨rfl, B4⟩
  | true =>
  cases hrk : rightV k with
  | false =>
    clear hf
    go_enter Try.func6, Try.ntmps6
    go_wp2_with fail
    refine (is_bool (r := true) hfew (vecFew_any A B n m c d _)).mono ?_
    rintro e w1 ⟨rfl, hw1⟩
    have b1 := same_below hw1
    clear hw1
    have B1 := below_then (Below.refl w.heap.size w) b1
    replace RA := Lib.hid ((RA.out).below b1)
    replace RB := Lib.hid ((RB.out).below b1)
    replace RC := Lib.hid ((RC.out).below b1)
    clear b1
    go_wp2_with fail
    refine (is_bool (r := true) hra (vecRight_any A n c a _ (RA.out))).mono ?_
    rintro e w2 ⟨rfl, hw2⟩
    have b2 := same_below hw2
    clear hw2
    have B2 := below_then (B1) b2
    replace RA := Lib.hid ((RA.out).below b2)
    replace RB := Lib.hid ((RB.out).below b2)
    replace RC := Lib.hid ((RC.out).below b2)
    clear B1
    clear b2
    go_wp2_with fail
    refine (is_bool (r := true) hrb (vecRight_any B m d b _ (RB.out))).mono ?_
    rintro e w3 ⟨rfl, hw3⟩
    have b3 := same_below hw3
    clear hw3
    have B3 := below_then (B2) b3
    replace RA := Lib.hid ((RA.out).below b3)
    replace RB := Lib.hid ((RB.out).below b3)
    replace RC := Lib.hid ((RC.out).below b3)
    clear B2
    clear b3
    go_wp2_with fail
    refine (is_bool (r := false) hrk (vecRight_any C p q k _ (RC.out))).mono ?_
    rintro e w4 ⟨rfl, hw4⟩
    have b4 := same_below hw4
    clear hw4
    have B4 := below_then (B3) b4
    replace RA := Lib.hid ((RA.out).below b4)
    replace RB := Lib.hid ((RB.out).below b4)
    replace RC := Lib.hid ((RC.out).below b4)
    clear B3
    clear b4
    go_wp2_with fail
    refine (vecAlive_any _).mono ?_
    rintro e w5 ⟨rfl, b5⟩
    have B5 := below_then (B4) b5
    replace RA := Lib.hid ((RA.out).below b5)
    replace RB := Lib.hid ((RB.out).below b5)
    replace RC := Lib.hid ((RC.out).below b5)
    clear B4
    clear b5
    go_wp2
    go_ret
    exact ⟨rfl, B5⟩
  | true =>
  obtain ⟨jab, kjab, hjab, hkjab, hljab, Hjab⟩ := named_join a b (by rw [hla.out]; omega) (by rw [hlb.out]; omega)
  obtain ⟨jba, kjba, hjba, hkjba, hljba, Hjba⟩ := named_join b a (by rw [hlb.out]; omega) (by rw [hla.out]; omega)
  obtain ⟨mab, kmab, hmab, hkmab, hlmab, Hmab⟩ := named_meet a b (by rw [hla.out]; omega) (by rw [hlb.out]; omega)
  obtain ⟨mba, kmba, hmba, hkmba, hlmba, Hmba⟩ := named_meet b a (by rw [hlb.out]; omega) (by rw [hla.out]; omega)
  obtain ⟨jbc, kjbc, hjbc, hkjbc, hljbc, Hjbc⟩ := named_join b k (by rw [hlb.out]; omega) (by rw [hlk.out]; omega)
  obtain ⟨jabc, kjabc, hjabc, hkjabc, hljabc, Hjabc⟩ := named_join jab k (by rw [hkjab.out]; exact hljab) (by rw [hlk.out]; omega)
  obtain ⟨jajbc, kjajbc, hjajbc, hkjajbc, hljajbc, Hjajbc⟩ := named_join a jbc (by rw [hla.out]; omega) (by rw [hkjbc.out]; exact hljbc)
  obtain ⟨mbc, kmbc, hmbc, hkmbc, hlmbc, Hmbc⟩ := named_meet b k (by rw [hlb.out]; omega) (by rw [hlk.out]; omega)
  obtain ⟨mabc, kmabc, hmabc, hkmabc, hlmabc, Hmabc⟩ := named_meet mab k (by rw [hkmab.out]; exact hlmab) (by rw [hlk.out]; omega)
  obtain ⟨mambc, kmambc, hmambc, hkmambc, hlmambc, Hmambc⟩ := named_meet a mbc (by rw [hla.out]; omega) (by rw [hkmbc.out]; exact hlmbc)
  obtain ⟨jamab, kjamab, hjamab, hkjamab, hljamab, Hjamab⟩ := named_join a mab (by rw [hla.out]; omega) (by rw [hkmab.out]; exact hlmab)
  obtain ⟨majab, kmajab, hmajab, hkmajab, hlmajab, Hmajab⟩ := named_meet a jab (by rw [hla.out]; omega) (by rw [hkjab.out]; exact hljab)
  obtain ⟨majbc, kmajbc, hmajbc, hkmajbc, hlmajbc, Hmajbc⟩ := named_meet a jbc (by rw [hla.out]; omega) (by rw [hkjbc.out]; exact hljbc)
  obtain ⟨mac, kmac, hmac, hkmac, hlmac, Hmac⟩ := named_meet a k (by rw [hla.out]; omega) (by rw [hlk.out]; omega)
  obtain ⟨jmm, kjmm, hjmm, hkjmm, hljmm, Hjmm⟩ := named_join mab mac (by rw [hkmab.out]; exact hlmab) (by rw [hkmac.out]; exact hlmac)
  have S0 : sameV jab jba = true := sameV_of fun i => by rw [Hjab.out, Hjba.out]; omega
  have S0 := Lib.hid S0
  have S1 : sameV mab mba = true := sameV_of fun i => by rw [Hmab.out, Hmba.out]; omega
  have S1 := Lib.hid S1
  have S2 : sameV jabc jajbc = true := sameV_of fun i => by rw [Hjabc.out, Hjajbc.out, Hjab.out, Hjbc.out]; omega
  have S2 := Lib.hid S2
  have S3 : sameV mabc mambc = true := sameV_of fun i => by rw [Hmabc.out, Hmambc.out, Hmab.out, Hmbc.out]; omega
  have S3 := Lib.hid S3
  have S4 : sameV jamab a = true := sameV_of fun i => by rw [Hjamab.out, Hmab.out]; omega
  have S4 := Lib.hid S4
  have S5 : sameV majab a = true := sameV_of fun i => by rw [Hmajab.out, Hjab.out]; omega
  have S5 := Lib.hid S5
  have S6 : sameV majbc jmm = true := sameV_of fun i => by rw [Hmajbc.out, Hjmm.out, Hjbc.out, Hmab.out, Hmac.out]; omega
  have S6 := Lib.hid S6
  have hn4 : n ≤ 4294967296 := by omega
  have hm4 : m ≤ 4294967296 := by omega
  have hp4 : p ≤ 4294967296 := by omega
  clear hf
  go_enter Try.func6, Try.ntmps6
  go_wp2_with fail
  refine (is_bool (r := true) hfew (vecFew_any A B n m c d _)).mono ?_
  rintro e w1 ⟨rfl, hw1⟩
  have b1 := same_below hw1
  clear hw1
  have B1 := below_then (Below.refl w.heap.size w) b1
  replace RA := Lib.hid ((RA.out).below b1)
  replace RB := Lib.hid ((RB.out).below b1)
  replace RC := Lib.hid ((RC.out).below b1)
  clear b1
  go_wp2_with fail
  refine (is_bool (r := true) hra (vecRight_any A n c a _ (RA.out))).mono ?_
  rintro e w2 ⟨rfl, hw2⟩
  have b2 := same_below hw2
  clear hw2
  have B2 := below_then (B1) b2
  replace RA := Lib.hid ((RA.out).below b2)
  replace RB := Lib.hid ((RB.out).below b2)
  replace RC := Lib.hid ((RC.out).below b2)
  clear B1
  clear b2
  go_wp2_with fail
  refine (is_bool (r := true) hrb (vecRight_any B m d b _ (RB.out))).mono ?_
  rintro e w3 ⟨rfl, hw3⟩
  have b3 := same_below hw3
  clear hw3
  have B3 := below_then (B2) b3
  replace RA := Lib.hid ((RA.out).below b3)
  replace RB := Lib.hid ((RB.out).below b3)
  replace RC := Lib.hid ((RC.out).below b3)
  clear B2
  clear b3
  go_wp2_with fail
  refine (is_bool (r := true) hrk (vecRight_any C p q k _ (RC.out))).mono ?_
  rintro e w4 ⟨rfl, hw4⟩
  have b4 := same_below hw4
  clear hw4
  have B4 := below_then (B3) b4
  replace RA := Lib.hid ((RA.out).below b4)
  replace RB := Lib.hid ((RB.out).below b4)
  replace RC := Lib.hid ((RC.out).below b4)
  clear B3
  clear b4
  go_wp2_with fail
  refine (vecAlive_any _).mono ?_
  rintro e w5 ⟨rfl, b5⟩
  have B5 := below_then (B4) b5
  replace RA := Lib.hid ((RA.out).below b5)
  replace RB := Lib.hid ((RB.out).below b5)
  replace RC := Lib.hid ((RC.out).below b5)
  clear B4
  clear b5
  go_wp2_with fail
  refine (vecJoin_is hjab.out hkjab.out (RA.out) (RB.out) hn4 hm4).mono ?_
  rintro e w6 ⟨T6, c6, rfl, r6, b6⟩
  have B6 := below_then (B5) b6
  replace RA := Lib.hid ((RA.out).below b6)
  replace RB := Lib.hid ((RB.out).below b6)
  replace RC := Lib.hid ((RC.out).below b6)
  have Rjab_6 := Lib.hid r6
  clear r6
  clear B5
  clear b6
  go_wp2_with fail
  refine (vecJoin_is hjba.out hkjba.out (RB.out) (RA.out) hm4 hn4).mono ?_
  rintro e w7 ⟨T7, c7, rfl, r7, b7⟩
  have B7 := below_then (B6) b7
  replace RA := Lib.hid ((RA.out).below b7)
  replace RB := Lib.hid ((RB.out).below b7)
  replace RC := Lib.hid ((RC.out).below b7)
  replace Rjab_6 := Lib.hid ((Rjab_6.out).below b7)
  have Rjba_7 := Lib.hid r7
  clear r7
  clear B6
  clear b7
  go_wp2_with fail
  refine (is_bool (r := true) S0.out (vecSame_any T6 T7 kjab kjba c6 c7 jab jba _ (Rjab_6.out) (Rjba_7.out))).mono ?_
  rintro e w8 ⟨rfl, hw8⟩
  have b8 := same_below hw8
  clear hw8
  have B8 := below_then (B7) b8
  replace RA := Lib.hid ((RA.out).below b8)
  replace RB := Lib.hid ((RB.out).below b8)
  replace RC := Lib.hid ((RC.out).below b8)
  clear Rjab_6 Rjba_7
  clear B7
  clear b8
  go_wp2_with fail
  refine (vecMeet_is hmab.out hkmab.out (RA.out) (RB.out) hn4 hm4).mono ?_
  rintro e w9 ⟨T9, c9, rfl, r9, b9⟩
  have B9 := below_then (B8) b9
  replace RA := Lib.hid ((RA.out).below b9)
  replace RB := Lib.hid ((RB.out).below b9)
  replace RC := Lib.hid ((RC.out).below b9)
  have Rmab_9 := Lib.hid r9
  clear r9
  clear B8
  clear b9
  go_wp2_with fail
  refine (vecMeet_is hmba.out hkmba.out (RB.out) (RA.out) hm4 hn4).mono ?_
  rintro e w10 ⟨T10, c10, rfl, r10, b10⟩
  have B10 := below_then (B9) b10
  replace RA := Lib.hid ((RA.out).below b10)
  replace RB := Lib.hid ((RB.out).below b10)
  replace RC := Lib.hid ((RC.out).below b10)
  replace Rmab_9 := Lib.hid ((Rmab_9.out).below b10)
  have Rmba_10 := Lib.hid r10
  clear r10
  clear B9
  clear b10
  go_wp2_with fail
  refine (is_bool (r := true) S1.out (vecSame_any T9 T10 kmab kmba c9 c10 mab mba _ (Rmab_9.out) (Rmba_10.out))).mono ?_
  rintro e w11 ⟨rfl, hw11⟩
  have b11 := same_below hw11
  clear hw11
  have B11 := below_then (B10) b11
  replace RA := Lib.hid ((RA.out).below b11)
  replace RB := Lib.hid ((RB.out).below b11)
  replace RC := Lib.hid ((RC.out).below b11)
  clear Rmab_9 Rmba_10
  clear B10
  clear b11
  go_wp2_with fail
  refine (vecJoin_is hjab.out hkjab.out (RA.out) (RB.out) hn4 hm4).mono ?_
  rintro e w12 ⟨T12, c12, rfl, r12, b12⟩
  have B12 := below_then (B11) b12
  replace RA := Lib.hid ((RA.out).below b12)
  replace RB := Lib.hid ((RB.out).below b12)
  replace RC := Lib.hid ((RC.out).below b12)
  have Rjab_12 := Lib.hid r12
  clear r12
  clear B11
  clear b12
  go_wp2_with fail
  refine (vecJoin_is hjabc.out hkjabc.out (Rjab_12.out) (RC.out) hljab hp4).mono ?_
  rintro e w13 ⟨T13, c13, rfl, r13, b13⟩
  have B13 := below_then (B12) b13
  replace RA := Lib.hid ((RA.out).below b13)
  replace RB := Lib.hid ((RB.out).below b13)
  replace RC := Lib.hid ((RC.out).below b13)
  replace Rjab_12 := Lib.hid ((Rjab_12.out).below b13)
  have Rjabc_13 := Lib.hid r13
  clear r13
  clear B12
  clear b13
  go_wp2_with fail
  refine (vecJoin_is hjbc.out hkjbc.out (RB.out) (RC.out) hm4 hp4).mono ?_
  rintro e w14 ⟨T14, c14, rfl, r14, b14⟩
  have B14 := below_then (B13) b14
  replace RA := Lib.hid ((RA.out).below b14)
  replace RB := Lib.hid ((RB.out).below b14)
  replace RC := Lib.hid ((RC.out).below b14)
  replace Rjab_12 := Lib.hid ((Rjab_12.out).below b14)
  replace Rjabc_13 := Lib.hid ((Rjabc_13.out).below b14)
  have Rjbc_14 := Lib.hid r14
  clear r14
  clear B13
  clear b14
  go_wp2_with fail
  refine (vecJoin_is hjajbc.out hkjajbc.out (RA.out) (Rjbc_14.out) hn4 hljbc).mono ?_
  rintro e w15 ⟨T15, c15, rfl, r15, b15⟩
  have B15 := below_then (B14) b15
  replace RA := Lib.hid ((RA.out).below b15)
  replace RB := Lib.hid ((RB.out).below b15)
  replace RC := Lib.hid ((RC.out).below b15)
  replace Rjab_12 := Lib.hid ((Rjab_12.out).below b15)
  replace Rjabc_13 := Lib.hid ((Rjabc_13.out).below b15)
  replace Rjbc_14 := Lib.hid ((Rjbc_14.out).below b15)
  have Rjajbc_15 := Lib.hid r15
  clear r15
  clear B14
  clear b15
  go_wp2_with fail
  refine (is_bool (r := true) S2.out (vecSame_any T13 T15 kjabc kjajbc c13 c15 jabc jajbc _ (Rjabc_13.out) (Rjajbc_15.out))).mono ?_
  rintro e w16 ⟨rfl, hw16⟩
  have b16 := same_below hw16
  clear hw16
  have B16 := below_then (B15) b16
  replace RA := Lib.hid ((RA.out).below b16)
  replace RB := Lib.hid ((RB.out).below b16)
  replace RC := Lib.hid ((RC.out).below b16)
  clear Rjab_12 Rjbc_14 Rjabc_13 Rjajbc_15
  clear B15
  clear b16
  go_wp2_with fail
  refine (vecMeet_is hmab.out hkmab.out (RA.out) (RB.out) hn4 hm4).mono ?_
  rintro e w17 ⟨T17, c17, rfl, r17, b17⟩
  have B17 := below_then (B16) b17
  replace RA := Lib.hid ((RA.out).below b17)
  replace RB := Lib.hid ((RB.out).below b17)
  replace RC := Lib.hid ((RC.out).below b17)
  have Rmab_17 := Lib.hid r17
  clear r17
  clear B16
  clear b17
  go_wp2_with fail
  refine (vecMeet_is hmabc.out hkmabc.out (Rmab_17.out) (RC.out) hlmab hp4).mono ?_
  rintro e w18 ⟨T18, c18, rfl, r18, b18⟩
  have B18 := below_then (B17) b18
  replace RA := Lib.hid ((RA.out).below b18)
  replace RB := Lib.hid ((RB.out).below b18)
  replace RC := Lib.hid ((RC.out).below b18)
  replace Rmab_17 := Lib.hid ((Rmab_17.out).below b18)
  have Rmabc_18 := Lib.hid r18
  clear r18
  clear B17
  clear b18
  go_wp2_with fail
  refine (vecMeet_is hmbc.out hkmbc.out (RB.out) (RC.out) hm4 hp4).mono ?_
  rintro e w19 ⟨T19, c19, rfl, r19, b19⟩
  have B19 := below_then (B18) b19
  replace RA := Lib.hid ((RA.out).below b19)
  replace RB := Lib.hid ((RB.out).below b19)
  replace RC := Lib.hid ((RC.out).below b19)
  replace Rmab_17 := Lib.hid ((Rmab_17.out).below b19)
  replace Rmabc_18 := Lib.hid ((Rmabc_18.out).below b19)
  have Rmbc_19 := Lib.hid r19
  clear r19
  clear B18
  clear b19
  go_wp2_with fail
  refine (vecMeet_is hmambc.out hkmambc.out (RA.out) (Rmbc_19.out) hn4 hlmbc).mono ?_
  rintro e w20 ⟨T20, c20, rfl, r20, b20⟩
  have B20 := below_then (B19) b20
  replace RA := Lib.hid ((RA.out).below b20)
  replace RB := Lib.hid ((RB.out).below b20)
  replace RC := Lib.hid ((RC.out).below b20)
  replace Rmab_17 := Lib.hid ((Rmab_17.out).below b20)
  replace Rmabc_18 := Lib.hid ((Rmabc_18.out).below b20)
  replace Rmbc_19 := Lib.hid ((Rmbc_19.out).below b20)
  have Rmambc_20 := Lib.hid r20
  clear r20
  clear B19
  clear b20
  go_wp2_with fail
  refine (is_bool (r := true) S3.out (vecSame_any T18 T20 kmabc kmambc c18 c20 mabc mambc _ (Rmabc_18.out) (Rmambc_20.out))).mono ?_
  rintro e w21 ⟨rfl, hw21⟩
  have b21 := same_below hw21
  clear hw21
  have B21 := below_then (B20) b21
  replace RA := Lib.hid ((RA.out).below b21)
  replace RB := Lib.hid ((RB.out).below b21)
  replace RC := Lib.hid ((RC.out).below b21)
  clear Rmab_17 Rmbc_19 Rmabc_18 Rmambc_20
  clear B20
  clear b21
  go_wp2_with fail
  refine (vecMeet_is hmab.out hkmab.out (RA.out) (RB.out) hn4 hm4).mono ?_
  rintro e w22 ⟨T22, c22, rfl, r22, b22⟩
  have B22 := below_then (B21) b22
  replace RA := Lib.hid ((RA.out).below b22)
  replace RB := Lib.hid ((RB.out).below b22)
  replace RC := Lib.hid ((RC.out).below b22)
  have Rmab_22 := Lib.hid r22
  clear r22
  clear B21
  clear b22
  go_wp2_with fail
  refine (vecJoin_is hjamab.out hkjamab.out (RA.out) (Rmab_22.out) hn4 hlmab).mono ?_
  rintro e w23 ⟨T23, c23, rfl, r23, b23⟩
  have B23 := below_then (B22) b23
  replace RA := Lib.hid ((RA.out).below b23)
  replace RB := Lib.hid ((RB.out).below b23)
  replace RC := Lib.hid ((RC.out).below b23)
  replace Rmab_22 := Lib.hid ((Rmab_22.out).below b23)
  have Rjamab_23 := Lib.hid r23
  clear r23
  clear B22
  clear b23
  go_wp2_with fail
  refine (is_bool (r := true) S4.out (vecSame_any T23 A kjamab n c23 c jamab a _ (Rjamab_23.out) (RA.out))).mono ?_
  rintro e w24 ⟨rfl, hw24⟩
  have b24 := same_below hw24
  clear hw24
  have B24 := below_then (B23) b24
  replace RA := Lib.hid ((RA.out).below b24)
  replace RB := Lib.hid ((RB.out).below b24)
  replace RC := Lib.hid ((RC.out).below b24)
  clear Rmab_22 Rjamab_23
  clear B23
  clear b24
  go_wp2_with fail
  refine (vecJoin_is hjab.out hkjab.out (RA.out) (RB.out) hn4 hm4).mono ?_
  rintro e w25 ⟨T25, c25, rfl, r25, b25⟩
  have B25 := below_then (B24) b25
  replace RA := Lib.hid ((RA.out).below b25)
  replace RB := Lib.hid ((RB.out).below b25)
  replace RC := Lib.hid ((RC.out).below b25)
  have Rjab_25 := Lib.hid r25
  clear r25
  clear B24
  clear b25
  go_wp2_with fail
  refine (vecMeet_is hmajab.out hkmajab.out (RA.out) (Rjab_25.out) hn4 hljab).mono ?_
  rintro e w26 ⟨T26, c26, rfl, r26, b26⟩
  have B26 := below_then (B25) b26
  replace RA := Lib.hid ((RA.out).below b26)
  replace RB := Lib.hid ((RB.out).below b26)
  replace RC := Lib.hid ((RC.out).below b26)
  replace Rjab_25 := Lib.hid ((Rjab_25.out).below b26)
  have Rmajab_26 := Lib.hid r26
  clear r26
  clear B25
  clear b26
  go_wp2_with fail
  refine (is_bool (r := true) S5.out (vecSame_any T26 A kmajab n c26 c majab a _ (Rmajab_26.out) (RA.out))).mono ?_
  rintro e w27 ⟨rfl, hw27⟩
  have b27 := same_below hw27
  clear hw27
  have B27 := below_then (B26) b27
  replace RA := Lib.hid ((RA.out).below b27)
  replace RB := Lib.hid ((RB.out).below b27)
  replace RC := Lib.hid ((RC.out).below b27)
  clear Rjab_25 Rmajab_26
  clear B26
  clear b27
  go_wp2_with fail
  refine (vecJoin_is hjbc.out hkjbc.out (RB.out) (RC.out) hm4 hp4).mono ?_
  rintro e w28 ⟨T28, c28, rfl, r28, b28⟩
  have B28 := below_then (B27) b28
  replace RA := Lib.hid ((RA.out).below b28)
  replace RB := Lib.hid ((RB.out).below b28)
  replace RC := Lib.hid ((RC.out).below b28)
  have Rjbc_28 := Lib.hid r28
  clear r28
  clear B27
  clear b28
  go_wp2_with fail
  refine (vecMeet_is hmajbc.out hkmajbc.out (RA.out) (Rjbc_28.out) hn4 hljbc).mono ?_
  rintro e w29 ⟨T29, c29, rfl, r29, b29⟩
  have B29 := below_then (B28) b29
  replace RA := Lib.hid ((RA.out).below b29)
  replace RB := Lib.hid ((RB.out).below b29)
  replace RC := Lib.hid ((RC.out).below b29)
  replace Rjbc_28 := Lib.hid ((Rjbc_28.out).below b29)
  have Rmajbc_29 := Lib.hid r29
  clear r29
  clear B28
  clear b29
  go_wp2_with fail
  refine (vecMeet_is hmab.out hkmab.out (RA.out) (RB.out) hn4 hm4).mono ?_
  rintro e w30 ⟨T30, c30, rfl, r30, b30⟩
  have B30 := below_then (B29) b30
  replace RA := Lib.hid ((RA.out).below b30)
  replace RB := Lib.hid ((RB.out).below b30)
  replace RC := Lib.hid ((RC.out).below b30)
  replace Rjbc_28 := Lib.hid ((Rjbc_28.out).below b30)
  replace Rmajbc_29 := Lib.hid ((Rmajbc_29.out).below b30)
  have Rmab_30 := Lib.hid r30
  clear r30
  clear B29
  clear b30
  go_wp2_with fail
  refine (vecMeet_is hmac.out hkmac.out (RA.out) (RC.out) hn4 hp4).mono ?_
  rintro e w31 ⟨T31, c31, rfl, r31, b31⟩
  have B31 := below_then (B30) b31
  replace RA := Lib.hid ((RA.out).below b31)
  replace RB := Lib.hid ((RB.out).below b31)
  replace RC := Lib.hid ((RC.out).below b31)
  replace Rjbc_28 := Lib.hid ((Rjbc_28.out).below b31)
  replace Rmajbc_29 := Lib.hid ((Rmajbc_29.out).below b31)
  replace Rmab_30 := Lib.hid ((Rmab_30.out).below b31)
  have Rmac_31 := Lib.hid r31
  clear r31
  clear B30
  clear b31
  go_wp2_with fail
  refine (vecJoin_is hjmm.out hkjmm.out (Rmab_30.out) (Rmac_31.out) hlmab hlmac).mono ?_
  rintro e w32 ⟨T32, c32, rfl, r32, b32⟩
  have B32 := below_then (B31) b32
  replace RA := Lib.hid ((RA.out).below b32)
  replace RB := Lib.hid ((RB.out).below b32)
  replace RC := Lib.hid ((RC.out).below b32)
  replace Rjbc_28 := Lib.hid ((Rjbc_28.out).below b32)
  replace Rmajbc_29 := Lib.hid ((Rmajbc_29.out).below b32)
  replace Rmab_30 := Lib.hid ((Rmab_30.out).below b32)
  replace Rmac_31 := Lib.hid ((Rmac_31.out).below b32)
  have Rjmm_32 := Lib.hid r32
  clear r32
  clear B31
  clear b32
  go_wp2_with fail
  refine (is_bool (r := true) S6.out (vecSame_any T29 T32 kmajbc kjmm c29 c32 majbc jmm _ (Rmajbc_29.out) (Rjmm_32.out))).mono ?_
  rintro e w33 ⟨rfl, hw33⟩
  have b33 := same_below hw33
  clear hw33
  have B33 := below_then (B32) b33
  replace RA := Lib.hid ((RA.out).below b33)
  replace RB := Lib.hid ((RB.out).below b33)
  replace RC := Lib.hid ((RC.out).below b33)
  clear Rjbc_28 Rmajbc_29 Rmab_30 Rmac_31 Rjmm_32
  clear B32
  clear b33
  go_wp2
  go_ret
  exact ⟨rfl, B33⟩

theorem contract (H : Type) (enc : TypeId × Value → H) (W : World) (base : Nat) (args : Array Value) (ds gs : List (DataW H)) (before : List MemPlace)
    (hval : ∀ (j : Nat) t v, Try.f6.params[j]? = some t → args[j]? = some v → Value.okWide Try.prog W .any base t v)
    (hW : DataW.Whole enc Try.prog Try.f6.params.toList Rows.vectorLatticeSpec.vars false W args.toList ds gs before) :
    Calls Try.prog 6 args W fun e W' => ∃ v, e = .returned v ∧ Rows.vectorLatticeSpec.post enc Try.prog Try.f6 false true false false W args v W' := by
  have hlt : ∀ x ∈ before, x.block < W.heap.size := fun x hx => by simpa using hW.lt x hx
  refine law_step 4 Try.laid_ (by kernel_rfl) rfl Try.underlying4 rfl hW (fun xs hx => ?_) ?_
  · match xs, hx with
    | [d0, d1, d2], _ => rfl
  · obtain ⟨p, q, hA0, hV, rfl, _, _⟩ := hW
    have hA : DataW.TrodAll enc Try.prog W 0 (fun _ => true) true Try.f6.params.toList args.toList ds p := hA0
    rw [Try.params6] at hA hval
    obtain ⟨v0, vs0, d0, ds0, p0, q0, e0, rfl, rfl, h0, r0⟩ := trodAll_cons hA
    obtain ⟨v1, vs1, d1, ds1, p1, q1, e1, rfl, rfl, h1, r1⟩ := trodAll_cons r0
    obtain ⟨v2, vs2, d2, ds2, p2, q2, e2, rfl, rfl, h2, r2⟩ := trodAll_cons r1
    obtain ⟨rfl, rfl, rfl⟩ := trodAll_nil r2
    subst e2
    subst e1
    obtain rfl : args = #[v0, v1, v2] := by cases args; simp_all
    clear e0 hA0
    obtain ⟨A0, n0, c0, a, rfl, rd0, wf0⟩ := open_vec (hval 0 23 v0 rfl rfl) h0 (fun x hx => hlt x (by simp [hx]))
    obtain ⟨A1, n1, c1, b, rfl, rd1, wf1⟩ := open_vec (hval 1 23 v1 rfl rfl) h1 (fun x hx => hlt x (by simp [hx]))
    obtain ⟨A2, n2, c2, k, rfl, rd2, wf2⟩ := open_vec (hval 2 23 v2 rfl rfl) h2 (fun x hx => hlt x (by simp [hx]))
    exact walk A0 A1 A2 n0 c0 n1 c1 n2 c2 a b k W rd0 rd1 rd2

set_option maxRecDepth 100000 in
theorem lifted (os : Os) (started : os.Started) (H : Type) (enc : TypeId × Value → H) :
    ReturnsInHanded {} Try.checked os 6 .any (Rows.vectorLatticeSpec.pre6 enc Try.prog Try.f6 Rows.vectorLatticeRow.domain false) (Rows.vectorLatticeSpec.post enc Try.prog Try.f6 false true false false) := by
  refine returnsInHanded_of_change (C := Try.checked) Try.own_ started (by kernel_rfl) Try.func6
    (ChangeSpec.witness6 (enc := enc) (C := Try.checked) false ⟨#[], #[.slice none 0 0, .slice none 0 0, .slice none 0 0], []⟩ 8 (by kernel_rfl) (by kernel_rfl) (by kernel_rfl) (by kernel_rfl)) ?_
  intro W base args ds gs before hval hW _ _
  exact contract H enc W base args ds gs before hval hW

theorem holds : Rows.VectorLatticeSaid :=
  OpenClaim.holds_of_wide 6 Try.f6 rfl rfl rfl rfl rfl rfl rfl ⟨rfl, rfl, rfl, rfl, rfl⟩ rfl rfl rfl rfl rfl (by kernel_rfl) Try.func6 (by kernel_rfl)
    (of_decide_eq_true (by kernel_rfl)) (by unfold Func.isWrapper; first | (rw [if_pos (by decide +kernel)]; kernel_rfl) | (rw [if_neg (by decide +kernel)]; exact ⟨rfl, rfl⟩))
    (fun os started H enc _ => lifted os started H enc)
end Go.Proofs.Ytefbgbciaiedeaa.vectorLattice
