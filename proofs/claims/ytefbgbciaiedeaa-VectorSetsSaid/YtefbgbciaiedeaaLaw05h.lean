/- Whatever vector, numbers and device come in: VectorSets answers true: a vector with another number of a device has that of this one, and of each other one what it had. No condition. -/
import Derived.Test.YtefbgbciaiedeaaRows
import Derived.Test.YtefbgbciaiedeaaLaw
import Derived.Test.YtefbgbciaiedeaaVecAlive
import Derived.Test.YtefbgbciaiedeaaVecOpen
import Derived.Test.YtefbgbciaiedeaaVecLaw
namespace Go.Proofs.Ytefbgbciaiedeaa.vectorSets
open Go.ChangeShapes Go.WideShapes Go.ChangeAt Go.RowKit Go.ChangeMaps

set_option maxRecDepth 100000 in
set_option maxHeartbeats 12800000 in
theorem walk (A : Option Addr) (n c : Nat) (a : List Int) (u v e : Int) (w : World) (ha : Rd w A n c (vals .i64 a)) :
    Calls Try.prog 10 #[.slice A n c, .agg #[.int .i64 u, .int .i64 v], .int .i64 e] w fun e w' => e = .returned (.bool true) ∧ Below w.heap.size w w' := by
  have RA : Hid (Rd (w.alloc (.cells #[.int .i64 u, .int .i64 v] 32)) A n c (vals .i64 a)) := ha.alloc _
  have Q : Hid ((w.alloc (.cells #[.int .i64 u, .int .i64 v] 32)).heap[w.heap.size]? = some (.cells #[.int .i64 u, .int .i64 v] 32)) := heap_alloc_new w _
  have BB := below_new (Below.refl w.heap.size w) (.cells #[.int .i64 u, .int .i64 v] 32)
  have hla := Lib.hid (show a.length = n by simpa using ha.len)
  clear ha
  by_cases hn : n ≤ 100
  rotate_left
  · have hfew : (decide (n ≤ 100) && decide (0 ≤ 100)) = false := by simp [hn]
    clear hn
    go_enter Try.func10, Try.ntmps10
    go_wp2_with fail
    generalize w.alloc (.cells #[.int .i64 u, .int .i64 v] 32) = w0 at RA Q BB ⊢
    skip
    refine (is_bool (r := false) hfew (vecFew_any A none n 0 c 0 _)).mono ?_
    rintro e w1 ⟨rfl, hw1⟩
    have b1 := same_below hw1
    clear hw1
    have B1 := below_then (BB) b1
    replace RA := Lib.hid ((RA.out).below b1)
    replace Q := Lib.hid (row_below (Q.out) b1)
    clear b1
    go_wp2_with fail
    refine (vecAlive_any _).mono ?_
    rintro e w2 ⟨rfl, b2⟩
    have B2 := below_then (B1) b2
    replace RA := Lib.hid ((RA.out).below b2)
    replace Q := Lib.hid (row_below (Q.out) b2)
    clear B1
    clear b2
    go_wp2
    go_ret
    exact ⟨rfl, B2⟩
  have hfew : (decide (n ≤ 100) && decide (0 ≤ 100)) = true := by simp [hn]
  have hn4 : n ≤ 4294967296 := by omega
  clear hn
  obtain ⟨V, hV, kV, hkV⟩ : ∃ V, Hid (setV a u v = V) ∧ ∃ k, Hid (V.length = k) := ⟨_, rfl, _, rfl⟩
  have hlast : Hid (0 < kV → ofN V (kV - 1) ≠ 0) := by
    intro h
    have := setV_last a u v (by rw [hV.out, hkV.out]; exact h)
    rwa [hV.out, hkV.out] at this
  obtain ⟨y, hy⟩ : ∃ y, Hid (ofV a e = y) := ⟨_, rfl⟩
  rcases Decidable.em (e = u) with rfl | hne
  · rcases Decidable.em (1 ≤ e) with h1 | h1
    · rcases Decidable.em (e ≤ 64) with h2 | h2
      · have HO : Hid (ofV V e = v) := by show _ = _; rw [← hV.out]; exact set_of_here h1 h2
        rcases Nat.eq_zero_or_pos kV with hk | hk
        · obtain rfl : kV = 0 := by omega
          go_enter Try.func10, Try.ntmps10
          go_wp2_with fail
          generalize w.alloc (.cells #[.int .i64 e, .int .i64 v] 32) = w0 at RA Q BB ⊢
          skip
          refine (is_bool (r := true) hfew (vecFew_any A none n 0 c 0 _)).mono ?_
          rintro e w1 ⟨rfl, hw1⟩
          have b1 := same_below hw1
          clear hw1
          have B1 := below_then (BB) b1
          replace RA := Lib.hid ((RA.out).below b1)
          replace Q := Lib.hid (row_below (Q.out) b1)
          clear b1
          obtain ⟨z0, z1⟩ := pair_at Q.out
          go_wp2_with fail
          refine (vecSet_is hV.out hkV.out (RA.out) hn4).mono ?_
          rintro e w2 ⟨TV, cV, rfl, rV, b2⟩
          have B2 := below_then (B1) b2
          replace RA := Lib.hid ((RA.out).below b2)
          replace Q := Lib.hid (row_below (Q.out) b2)
          have RV := Lib.hid rV
          clear rV
          clear B1
          clear b2
          clear z0 z1
          go_wp2_with fail
          refine (is_int hy.out (vecOf_any A n c a _ _ (RA.out))).mono ?_
          rintro e w3 ⟨rfl, hw3⟩
          have b3 := same_below hw3
          clear hw3
          have B3 := below_then (B2) b3
          replace RA := Lib.hid ((RA.out).below b3)
          replace RV := Lib.hid ((RV.out).below b3)
          replace Q := Lib.hid (row_below (Q.out) b3)
          clear B2
          clear b3
          obtain ⟨z0, z1⟩ := pair_at Q.out
          go_wp2_with fail
          refine (vecAlive_any _).mono ?_
          rintro e w4 ⟨rfl, b4⟩
          have B4 := below_then (B3) b4
          replace RA := Lib.hid ((RA.out).below b4)
          replace RV := Lib.hid ((RV.out).below b4)
          replace Q := Lib.hid (row_below (Q.out) b4)
          clear B3
          clear b4
          clear z0 z1
          go_wp2_with fail
          refine (is_int HO.out (vecOf_any TV 0 cV V _ _ (RV.out))).mono ?_
          rintro e w5 ⟨rfl, hw5⟩
          have b5 := same_below hw5
          clear hw5
          have B5 := below_then (B4) b5
          replace RA := Lib.hid ((RA.out).below b5)
          replace RV := Lib.hid ((RV.out).below b5)
          replace Q := Lib.hid (row_below (Q.out) b5)
          clear B4
          clear b5
          go_wp2
          go_ret
          exact ⟨rfl, B5⟩
        · have k0 : ((kV : Int) == 0) = false := by simp; omega
          have q1 : IntKind.i64.wrap ((kV : Int) - 1) = (kV : Int) - 1 := wrap_is (by have := hkV.out; have := setV_len a e v; rw [hV.out] at this; have := hla.out; omega)
          have q2 : (0 : Int) ≤ (kV : Int) - 1 := by omega
          have q3 : (kV : Int) - 1 < (kV : Int) := by omega
          have q4 : ((kV : Int) - 1).toNat = kV - 1 := by omega
          have q5 : (1 : Int) ≤ (kV : Int) := by omega
          go_enter Try.func10, Try.ntmps10
          go_wp2_with fail
          generalize w.alloc (.cells #[.int .i64 e, .int .i64 v] 32) = w0 at RA Q BB ⊢
          skip
          refine (is_bool (r := true) hfew (vecFew_any A none n 0 c 0 _)).mono ?_
          rintro e w1 ⟨rfl, hw1⟩
          have b1 := same_below hw1
          clear hw1
          have B1 := below_then (BB) b1
          replace RA := Lib.hid ((RA.out).below b1)
          replace Q := Lib.hid (row_below (Q.out) b1)
          clear b1
          obtain ⟨z0, z1⟩ := pair_at Q.out
          go_wp2_with fail
          refine (vecSet_is hV.out hkV.out (RA.out) hn4).mono ?_
          rintro e w2 ⟨TV, cV, rfl, rV, b2⟩
          have B2 := below_then (B1) b2
          replace RA := Lib.hid ((RA.out).below b2)
          replace Q := Lib.hid (row_below (Q.out) b2)
          have RV := Lib.hid rV
          clear rV
          clear B1
          clear b2
          clear z0 z1
          go_wp2_with fail
          refine (is_int hy.out (vecOf_any A n c a _ _ (RA.out))).mono ?_
          rintro e w3 ⟨rfl, hw3⟩
          have b3 := same_below hw3
          clear hw3
          have B3 := below_then (B2) b3
          replace RA := Lib.hid ((RA.out).below b3)
          replace RV := Lib.hid ((RV.out).below b3)
          replace Q := Lib.hid (row_below (Q.out) b3)
          clear B2
          clear b3
          obtain ⟨z0, z1⟩ := pair_at Q.out
          go_wp2_with fail
          refine (vecAlive_any _).mono ?_
          rintro e w4 ⟨rfl, b4⟩
          have B4 := below_then (B3) b4
          replace RA := Lib.hid ((RA.out).below b4)
          replace RV := Lib.hid ((RV.out).below b4)
          replace Q := Lib.hid (row_below (Q.out) b4)
          clear B3
          clear b4
          clear z0 z1
          go_wp2_with fail
          refine (is_int HO.out (vecOf_any TV kV cV V _ _ (RV.out))).mono ?_
          rintro e w5 ⟨rfl, hw5⟩
          have b5 := same_below hw5
          clear hw5
          have B5 := below_then (B4) b5
          replace RA := Lib.hid ((RA.out).below b5)
          replace RV := Lib.hid ((RV.out).below b5)
          replace Q := Lib.hid (row_below (Q.out) b5)
          clear B4
          clear b5
          obtain ⟨bv, ov, zv, rfl, _, hzv, hcv⟩ := RV.out.at_ (k := kV - 1) (by omega)
          obtain ⟨z, hz, rfl⟩ := vals_at hzv
          have hz0 : (z != 0) = true := by have := hlast.out hk; rw [ofN_at hz] at this; simpa using this
          clear hzv hz
          go_wp2
          go_ret
          exact ⟨rfl, B5⟩
      · have HO : Hid (ofV V e = y) := by show _ = _; rw [← hV.out, ← hy.out]; exact set_of_else (by omega)
        rcases Nat.eq_zero_or_pos kV with hk | hk
        · obtain rfl : kV = 0 := by omega
          go_enter Try.func10, Try.ntmps10
          go_wp2_with fail
          generalize w.alloc (.cells #[.int .i64 e, .int .i64 v] 32) = w0 at RA Q BB ⊢
          skip
          refine (is_bool (r := true) hfew (vecFew_any A none n 0 c 0 _)).mono ?_
          rintro e w1 ⟨rfl, hw1⟩
          have b1 := same_below hw1
          clear hw1
          have B1 := below_then (BB) b1
          replace RA := Lib.hid ((RA.out).below b1)
          replace Q := Lib.hid (row_below (Q.out) b1)
          clear b1
          obtain ⟨z0, z1⟩ := pair_at Q.out
          go_wp2_with fail
          refine (vecSet_is hV.out hkV.out (RA.out) hn4).mono ?_
          rintro e w2 ⟨TV, cV, rfl, rV, b2⟩
          have B2 := below_then (B1) b2
          replace RA := Lib.hid ((RA.out).below b2)
          replace Q := Lib.hid (row_below (Q.out) b2)
          have RV := Lib.hid rV
          clear rV
          clear B1
          clear b2
          clear z0 z1
          go_wp2_with fail
          refine (is_int hy.out (vecOf_any A n c a _ _ (RA.out))).mono ?_
          rintro e w3 ⟨rfl, hw3⟩
          have b3 := same_below hw3
          clear hw3
          have B3 := below_then (B2) b3
          replace RA := Lib.hid ((RA.out).below b3)
          replace RV := Lib.hid ((RV.out).below b3)
          replace Q := Lib.hid (row_below (Q.out) b3)
          clear B2
          clear b3
          obtain ⟨z0, z1⟩ := pair_at Q.out
          go_wp2_with fail
          refine (vecAlive_any _).mono ?_
          rintro e w4 ⟨rfl, b4⟩
          have B4 := below_then (B3) b4
          replace RA := Lib.hid ((RA.out).below b4)
          replace RV := Lib.hid ((RV.out).below b4)
          replace Q := Lib.hid (row_below (Q.out) b4)
          clear B3
          clear b4
          clear z0 z1
          go_wp2_with fail
          refine (is_int HO.out (vecOf_any TV 0 cV V _ _ (RV.out))).mono ?_
          rintro e w5 ⟨rfl, hw5⟩
          have b5 := same_below hw5
          clear hw5
          have B5 := below_then (B4) b5
          replace RA := Lib.hid ((RA.out).below b5)
          replace RV := Lib.hid ((RV.out).below b5)
          replace Q := Lib.hid (row_below (Q.out) b5)
          clear B4
          clear b5
          go_wp2
          go_ret
          exact ⟨rfl, B5⟩
        · have k0 : ((kV : Int) == 0) = false := by simp; omega
          have q1 : IntKind.i64.wrap ((kV : Int) - 1) = (kV : Int) - 1 := wrap_is (by have := hkV.out; have := setV_len a e v; rw [hV.out] at this; have := hla.out; omega)
          have q2 : (0 : Int) ≤ (kV : Int) - 1 := by omega
          have q3 : (kV : Int) - 1 < (kV : Int) := by omega
          have q4 : ((kV : Int) - 1).toNat = kV - 1 := by omega
          have q5 : (1 : Int) ≤ (kV : Int) := by omega
          go_enter Try.func10, Try.ntmps10
          go_wp2_with fail
          generalize w.alloc (.cells #[.int .i64 e, .int .i64 v] 32) = w0 at RA Q BB ⊢
          skip
          refine (is_bool (r := true) hfew (vecFew_any A none n 0 c 0 _)).mono ?_
          rintro e w1 ⟨rfl, hw1⟩
          have b1 := same_below hw1
          clear hw1
          have B1 := below_then (BB) b1
          replace RA := Lib.hid ((RA.out).below b1)
          replace Q := Lib.hid (row_below (Q.out) b1)
          clear b1
          obtain ⟨z0, z1⟩ := pair_at Q.out
          go_wp2_with fail
          refine (vecSet_is hV.out hkV.out (RA.out) hn4).mono ?_
          rintro e w2 ⟨TV, cV, rfl, rV, b2⟩
          have B2 := below_then (B1) b2
          replace RA := Lib.hid ((RA.out).below b2)
          replace Q := Lib.hid (row_below (Q.out) b2)
          have RV := Lib.hid rV
          clear rV
          clear B1
          clear b2
          clear z0 z1
          go_wp2_with fail
          refine (is_int hy.out (vecOf_any A n c a _ _ (RA.out))).mono ?_
          rintro e w3 ⟨rfl, hw3⟩
          have b3 := same_below hw3
          clear hw3
          have B3 := below_then (B2) b3
          replace RA := Lib.hid ((RA.out).below b3)
          replace RV := Lib.hid ((RV.out).below b3)
          replace Q := Lib.hid (row_below (Q.out) b3)
          clear B2
          clear b3
          obtain ⟨z0, z1⟩ := pair_at Q.out
          go_wp2_with fail
          refine (vecAlive_any _).mono ?_
          rintro e w4 ⟨rfl, b4⟩
          have B4 := below_then (B3) b4
          replace RA := Lib.hid ((RA.out).below b4)
          replace RV := Lib.hid ((RV.out).below b4)
          replace Q := Lib.hid (row_below (Q.out) b4)
          clear B3
          clear b4
          clear z0 z1
          go_wp2_with fail
          refine (is_int HO.out (vecOf_any TV kV cV V _ _ (RV.out))).mono ?_
          rintro e w5 ⟨rfl, hw5⟩
          have b5 := same_below hw5
          clear hw5
          have B5 := below_then (B4) b5
          replace RA := Lib.hid ((RA.out).below b5)
          replace RV := Lib.hid ((RV.out).below b5)
          replace Q := Lib.hid (row_below (Q.out) b5)
          clear B4
          clear b5
          obtain ⟨bv, ov, zv, rfl, _, hzv, hcv⟩ := RV.out.at_ (k := kV - 1) (by omega)
          obtain ⟨z, hz, rfl⟩ := vals_at hzv
          have hz0 : (z != 0) = true := by have := hlast.out hk; rw [ofN_at hz] at this; simpa using this
          clear hzv hz
          go_wp2
          go_ret
          exact ⟨rfl, B5⟩
    · have HO : Hid (ofV V e = y) := by show _ = _; rw [← hV.out, ← hy.out]; exact set_of_else (by omega)
      rcases Nat.eq_zero_or_pos kV with hk | hk
      · obtain rfl : kV = 0 := by omega
        go_enter Try.func10, Try.ntmps10
        go_wp2_with fail
        generalize w.alloc (.cells #[.int .i64 e, .int .i64 v] 32) = w0 at RA Q BB ⊢
        skip
        refine (is_bool (r := true) hfew (vecFew_any A none n 0 c 0 _)).mono ?_
        rintro e w1 ⟨rfl, hw1⟩
        have b1 := same_below hw1
        clear hw1
        have B1 := below_then (BB) b1
        replace RA := Lib.hid ((RA.out).below b1)
        replace Q := Lib.hid (row_below (Q.out) b1)
        clear b1
        obtain ⟨z0, z1⟩ := pair_at Q.out
        go_wp2_with fail
        refine (vecSet_is hV.out hkV.out (RA.out) hn4).mono ?_
        rintro e w2 ⟨TV, cV, rfl, rV, b2⟩
        have B2 := below_then (B1) b2
        replace RA := Lib.hid ((RA.out).below b2)
        replace Q := Lib.hid (row_below (Q.out) b2)
        have RV := Lib.hid rV
        clear rV
        clear B1
        clear b2
        clear z0 z1
        go_wp2_with fail
        refine (is_int hy.out (vecOf_any A n c a _ _ (RA.out))).mono ?_
        rintro e w3 ⟨rfl, hw3⟩
        have b3 := same_below hw3
        clear hw3
        have B3 := below_then (B2) b3
        replace RA := Lib.hid ((RA.out).below b3)
        replace RV := Lib.hid ((RV.out).below b3)
        replace Q := Lib.hid (row_below (Q.out) b3)
        clear B2
        clear b3
        obtain ⟨z0, z1⟩ := pair_at Q.out
        go_wp2_with fail
        refine (vecAlive_any _).mono ?_
        rintro e w4 ⟨rfl, b4⟩
        have B4 := below_then (B3) b4
        replace RA := Lib.hid ((RA.out).below b4)
        replace RV := Lib.hid ((RV.out).below b4)
        replace Q := Lib.hid (row_below (Q.out) b4)
        clear B3
        clear b4
        clear z0 z1
        go_wp2_with fail
        refine (is_int HO.out (vecOf_any TV 0 cV V _ _ (RV.out))).mono ?_
        rintro e w5 ⟨rfl, hw5⟩
        have b5 := same_below hw5
        clear hw5
        have B5 := below_then (B4) b5
        replace RA := Lib.hid ((RA.out).below b5)
        replace RV := Lib.hid ((RV.out).below b5)
        replace Q := Lib.hid (row_below (Q.out) b5)
        clear B4
        clear b5
        go_wp2
        go_ret
        exact ⟨rfl, B5⟩
      · have k0 : ((kV : Int) == 0) = false := by simp; omega
        have q1 : IntKind.i64.wrap ((kV : Int) - 1) = (kV : Int) - 1 := wrap_is (by have := hkV.out; have := setV_len a e v; rw [hV.out] at this; have := hla.out; omega)
        have q2 : (0 : Int) ≤ (kV : Int) - 1 := by omega
        have q3 : (kV : Int) - 1 < (kV : Int) := by omega
        have q4 : ((kV : Int) - 1).toNat = kV - 1 := by omega
        have q5 : (1 : Int) ≤ (kV : Int) := by omega
        go_enter Try.func10, Try.ntmps10
        go_wp2_with fail
        generalize w.alloc (.cells #[.int .i64 e, .int .i64 v] 32) = w0 at RA Q BB ⊢
        skip
        refine (is_bool (r := true) hfew (vecFew_any A none n 0 c 0 _)).mono ?_
        rintro e w1 ⟨rfl, hw1⟩
        have b1 := same_below hw1
        clear hw1
        have B1 := below_then (BB) b1
        replace RA := Lib.hid ((RA.out).below b1)
        replace Q := Lib.hid (row_below (Q.out) b1)
        clear b1
        obtain ⟨z0, z1⟩ := pair_at Q.out
        go_wp2_with fail
        refine (vecSet_is hV.out hkV.out (RA.out) hn4).mono ?_
        rintro e w2 ⟨TV, cV, rfl, rV, b2⟩
        have B2 := below_then (B1) b2
        replace RA := Lib.hid ((RA.out).below b2)
        replace Q := Lib.hid (row_below (Q.out) b2)
        have RV := Lib.hid rV
        clear rV
        clear B1
        clear b2
        clear z0 z1
        go_wp2_with fail
        refine (is_int hy.out (vecOf_any A n c a _ _ (RA.out))).mono ?_
        rintro e w3 ⟨rfl, hw3⟩
        have b3 := same_below hw3
        clear hw3
        have B3 := below_then (B2) b3
        replace RA := Lib.hid ((RA.out).below b3)
        replace RV := Lib.hid ((RV.out).below b3)
        replace Q := Lib.hid (row_below (Q.out) b3)
        clear B2
        clear b3
        obtain ⟨z0, z1⟩ := pair_at Q.out
        go_wp2_with fail
        refine (vecAlive_any _).mono ?_
        rintro e w4 ⟨rfl, b4⟩
        have B4 := below_then (B3) b4
        replace RA := Lib.hid ((RA.out).below b4)
        replace RV := Lib.hid ((RV.out).below b4)
        replace Q := Lib.hid (row_below (Q.out) b4)
        clear B3
        clear b4
        clear z0 z1
        go_wp2_with fail
        refine (is_int HO.out (vecOf_any TV kV cV V _ _ (RV.out))).mono ?_
        rintro e w5 ⟨rfl, hw5⟩
        have b5 := same_below hw5
        clear hw5
        have B5 := below_then (B4) b5
        replace RA := Lib.hid ((RA.out).below b5)
        replace RV := Lib.hid ((RV.out).below b5)
        replace Q := Lib.hid (row_below (Q.out) b5)
        clear B4
        clear b5
        obtain ⟨bv, ov, zv, rfl, _, hzv, hcv⟩ := RV.out.at_ (k := kV - 1) (by omega)
        obtain ⟨z, hz, rfl⟩ := vals_at hzv
        have hz0 : (z != 0) = true := by have := hlast.out hk; rw [ofN_at hz] at this; simpa using this
        clear hzv hz
        go_wp2
        go_ret
        exact ⟨rfl, B5⟩
  · have hbn : (e == u) = false := by simpa using hne
    have HO : Hid (ofV V e = y) := by show _ = _; rw [← hV.out, ← hy.out]; exact set_of_else (fun h => hne h.1)
    clear hne
    rcases Nat.eq_zero_or_pos kV with hk | hk
    · obtain rfl : kV = 0 := by omega
      go_enter Try.func10, Try.ntmps10
      go_wp2_with fail
      generalize w.alloc (.cells #[.int .i64 u, .int .i64 v] 32) = w0 at RA Q BB ⊢
      skip
      refine (is_bool (r := true) hfew (vecFew_any A none n 0 c 0 _)).mono ?_
      rintro e w1 ⟨rfl, hw1⟩
      have b1 := same_below hw1
      clear hw1
      have B1 := below_then (BB) b1
      replace RA := Lib.hid ((RA.out).below b1)
      replace Q := Lib.hid (row_below (Q.out) b1)
      clear b1
      obtain ⟨z0, z1⟩ := pair_at Q.out
      go_wp2_with fail
      refine (vecSet_is hV.out hkV.out (RA.out) hn4).mono ?_
      rintro e w2 ⟨TV, cV, rfl, rV, b2⟩
      have B2 := below_then (B1) b2
      replace RA := Lib.hid ((RA.out).below b2)
      replace Q := Lib.hid (row_below (Q.out) b2)
      have RV := Lib.hid rV
      clear rV
      clear B1
      clear b2
      clear z0 z1
      go_wp2_with fail
      refine (is_int hy.out (vecOf_any A n c a _ _ (RA.out))).mono ?_
      rintro e w3 ⟨rfl, hw3⟩
      have b3 := same_below hw3
      clear hw3
      have B3 := below_then (B2) b3
      replace RA := Lib.hid ((RA.out).below b3)
      replace RV := Lib.hid ((RV.out).below b3)
      replace Q := Lib.hid (row_below (Q.out) b3)
      clear B2
      clear b3
      obtain ⟨z0, z1⟩ := pair_at Q.out
      go_wp2_with fail
      refine (vecAlive_any _).mono ?_
      rintro e w4 ⟨rfl, b4⟩
      have B4 := below_then (B3) b4
      replace RA := Lib.hid ((RA.out).below b4)
      replace RV := Lib.hid ((RV.out).below b4)
      replace Q := Lib.hid (row_below (Q.out) b4)
      clear B3
      clear b4
      clear z0 z1
      go_wp2_with fail
      refine (is_int HO.out (vecOf_any TV 0 cV V _ _ (RV.out))).mono ?_
      rintro e w5 ⟨rfl, hw5⟩
      have b5 := same_below hw5
      clear hw5
      have B5 := below_then (B4) b5
      replace RA := Lib.hid ((RA.out).below b5)
      replace RV := Lib.hid ((RV.out).below b5)
      replace Q := Lib.hid (row_below (Q.out) b5)
      clear B4
      clear b5
      go_wp2
      go_ret
      exact ⟨rfl, B5⟩
    · have k0 : ((kV : Int) == 0) = false := by simp; omega
      have q1 : IntKind.i64.wrap ((kV : Int) - 1) = (kV : Int) - 1 := wrap_is (by have := hkV.out; have := setV_len a u v; rw [hV.out] at this; have := hla.out; omega)
      have q2 : (0 : Int) ≤ (kV : Int) - 1 := by omega
      have q3 : (kV : Int) - 1 < (kV : Int) := by omega
      have q4 : ((kV : Int) - 1).toNat = kV - 1 := by omega
      have q5 : (1 : Int) ≤ (kV : Int) := by omega
      go_enter Try.func10, Try.ntmps10
      go_wp2_with fail
      generalize w.alloc (.cells #[.int .i64 u, .int .i64 v] 32) = w0 at RA Q BB ⊢
      skip
      refine (is_bool (r := true) hfew (vecFew_any A none n 0 c 0 _)).mono ?_
      rintro e w1 ⟨rfl, hw1⟩
      have b1 := same_below hw1
      clear hw1
      have B1 := below_then (BB) b1
      replace RA := Lib.hid ((RA.out).below b1)
      replace Q := Lib.hid (row_below (Q.out) b1)
      clear b1
      obtain ⟨z0, z1⟩ := pair_at Q.out
      go_wp2_with fail
      refine (vecSet_is hV.out hkV.out (RA.out) hn4).mono ?_
      rintro e w2 ⟨TV, cV, rfl, rV, b2⟩
      have B2 := below_then (B1) b2
      replace RA := Lib.hid ((RA.out).below b2)
      replace Q := Lib.hid (row_below (Q.out) b2)
      have RV := Lib.hid rV
      clear rV
      clear B1
      clear b2
      clear z0 z1
      go_wp2_with fail
      refine (is_int hy.out (vecOf_any A n c a _ _ (RA.out))).mono ?_
      rintro e w3 ⟨rfl, hw3⟩
      have b3 := same_below hw3
      clear hw3
      have B3 := below_then (B2) b3
      replace RA := Lib.hid ((RA.out).below b3)
      replace RV := Lib.hid ((RV.out).below b3)
      replace Q := Lib.hid (row_below (Q.out) b3)
      clear B2
      clear b3
      obtain ⟨z0, z1⟩ := pair_at Q.out
      go_wp2_with fail
      refine (vecAlive_any _).mono ?_
      rintro e w4 ⟨rfl, b4⟩
      have B4 := below_then (B3) b4
      replace RA := Lib.hid ((RA.out).below b4)
      replace RV := Lib.hid ((RV.out).below b4)
      replace Q := Lib.hid (row_below (Q.out) b4)
      clear B3
      clear b4
      clear z0 z1
      go_wp2_with fail
      refine (is_int HO.out (vecOf_any TV kV cV V _ _ (RV.out))).mono ?_
      rintro e w5 ⟨rfl, hw5⟩
      have b5 := same_below hw5
      clear hw5
      have B5 := below_then (B4) b5
      replace RA := Lib.hid ((RA.out).below b5)
      replace RV := Lib.hid ((RV.out).below b5)
      replace Q := Lib.hid (row_below (Q.out) b5)
      clear B4
      clear b5
      obtain ⟨bv, ov, zv, rfl, _, hzv, hcv⟩ := RV.out.at_ (k := kV - 1) (by omega)
      obtain ⟨z, hz, rfl⟩ := vals_at hzv
      have hz0 : (z != 0) = true := by have := hlast.out hk; rw [ofN_at hz] at this; simpa using this
      clear hzv hz
      go_wp2
      go_ret
      exact ⟨rfl, B5⟩

theorem contract (H : Type) (enc : TypeId × Value → H) (W : World) (base : Nat) (args : Array Value) (ds gs : List (DataW H)) (before : List MemPlace)
    (hval : ∀ (j : Nat) t v, Try.f10.params[j]? = some t → args[j]? = some v → Value.okWide Try.prog W .any base t v)
    (hW : DataW.Whole enc Try.prog Try.f10.params.toList Rows.vectorSetsSpec.vars false W args.toList ds gs before) :
    Calls Try.prog 10 args W fun e W' => ∃ v, e = .returned v ∧ Rows.vectorSetsSpec.post enc Try.prog Try.f10 false true false false W args v W' := by
  have hlt : ∀ x ∈ before, x.block < W.heap.size := fun x hx => by simpa using hW.lt x hx
  refine law_step 4 Try.laid_ (by kernel_rfl) rfl Try.underlying4 rfl hW (fun xs hx => ?_) ?_
  · match xs, hx with
    | [d0, d1, d2], _ => rfl
  · obtain ⟨p, q, hA0, hV, rfl, _, _⟩ := hW
    have hA : DataW.TrodAll enc Try.prog W 0 (fun _ => true) true Try.f10.params.toList args.toList ds p := hA0
    rw [Try.params10] at hA hval
    obtain ⟨v0, vs0, d0, ds0, p0, q0, e0, rfl, rfl, h0, r0⟩ := trodAll_cons hA
    obtain ⟨v1, vs1, d1, ds1, p1, q1, e1, rfl, rfl, h1, r1⟩ := trodAll_cons r0
    obtain ⟨v2, vs2, d2, ds2, p2, q2, e2, rfl, rfl, h2, r2⟩ := trodAll_cons r1
    obtain ⟨rfl, rfl, rfl⟩ := trodAll_nil r2
    subst e2
    subst e1
    obtain rfl : args = #[v0, v1, v2] := by cases args; simp_all
    clear e0 hA0
    obtain ⟨A0, n0, c0, a, rfl, rd0, wf0⟩ := open_vec (hval 0 23 v0 rfl rfl) h0 (fun x hx => hlt x (by simp [hx]))
    obtain ⟨x1, y1, rfl, wx1, wy1⟩ := open_arr2 (hval 1 32 v1 rfl rfl) h1
    obtain ⟨e, rfl, rfl, rfl, w2⟩ := open_int Try.underlying3 (hval 2 3 v2 rfl rfl) h2
    obtain ⟨lo2, hi2⟩ := wf_i64 w2
    exact walk A0 n0 c0 a x1 y1 e W rd0

set_option maxRecDepth 100000 in
theorem lifted (os : Os) (started : os.Started) (H : Type) (enc : TypeId × Value → H) :
    ReturnsInHanded {} Try.checked os 10 .any (Rows.vectorSetsSpec.pre6 enc Try.prog Try.f10 Rows.vectorSetsRow.domain false) (Rows.vectorSetsSpec.post enc Try.prog Try.f10 false true false false) := by
  refine returnsInHanded_of_change (C := Try.checked) Try.own_ started (by kernel_rfl) Try.func10
    (ChangeSpec.witness6 (enc := enc) (C := Try.checked) false ⟨#[], #[.slice none 0 0, .agg #[.int .i64 0, .int .i64 0], .int .i64 0], []⟩ 8 (by kernel_rfl) (by kernel_rfl) (by kernel_rfl) (by kernel_rfl)) ?_
  intro W base args ds gs before hval hW _ _
  exact contract H enc W base args ds gs before hval hW

theorem holds : Rows.VectorSetsSaid :=
  OpenClaim.holds_of_wide 10 Try.f10 rfl rfl rfl rfl rfl rfl rfl ⟨rfl, rfl, rfl, rfl, rfl⟩ rfl rfl rfl rfl rfl (by kernel_rfl) Try.func10 (by kernel_rfl)
    (of_decide_eq_true (by kernel_rfl)) (by unfold Func.isWrapper; first | (rw [if_pos (by decide +kernel)]; kernel_rfl) | (rw [if_neg (by decide +kernel)]; exact ⟨rfl, rfl⟩))
    (fun os started H enc _ => lifted os started H enc)
end Go.Proofs.Ytefbgbciaiedeaa.vectorSets
