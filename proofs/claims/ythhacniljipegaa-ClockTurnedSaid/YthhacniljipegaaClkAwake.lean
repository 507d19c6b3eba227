/- Layer 4: lists of numbers held against each other; the chapter's examples. -/
import Derived.Test.YthhacniljipegaaClkOrd
import Derived.Deep.QuietTactic
import Derived.BigQuiet
namespace Go.Proofs.Ythhacniljipegaa
set_option maxRecDepth 100000
open Go.RowKit Srt

set_option maxHeartbeats 400000 in
theorem clkSame_any (A B : Option Addr) (n m c d : Nat) (xs ys : List Int) (w : World) (ha : Rd w A n c (vals .i64 xs)) (hb : Rd w B m d (vals .i64 ys)) :
    Calls Try.prog 16 #[.slice A n c, .slice B m d] w fun e w' => e = .returned (.bool (decide (xs = ys))) ∧ Quiet w w' := by
  have hn := ha.le
  have hm := hb.le
  have hla : xs.length = n := by simpa using ha.len
  have hlb : ys.length = m := by simpa using hb.len
  have HA := Lib.hid ha; have HB := Lib.hid hb; have HLA := Lib.hid hla; have HLB := Lib.hid hlb
  clear ha hb hla hlb
  by_cases hnm : n = m
  · subst hnm
    go_enter Try.func16, Try.ntmps16
    go_wp2
    go_loopw [5] (fun i wr => ∃ k : Nat, k ≤ n ∧ i = .int .i64 k ∧ xs.take k = ys.take k ∧ Quiet w wr) (fun i _ => n - (intOf i).toNat)
    case atStart => exact ⟨0, Nat.zero_le _, rfl, by simp, Quiet.refl _⟩
    case round =>
      obtain ⟨k, hk, rfl, htk, hq⟩ := hrel
      obtain ⟨dn, rfl⟩ := hq
      have HTK := Lib.hid htk
      clear htk
      by_cases hlt : k < n
      · obtain ⟨b, o, u, rfl, _, hu, hcu⟩ := HA.out.at_ hlt
        obtain ⟨b', o', v, rfl, _, hv, hcv⟩ := HB.out.at_ hlt
        obtain ⟨x, hx, rfl⟩ := vals_at hu
        obtain ⟨y, hy, rfl⟩ := vals_at hv
        have HX := Lib.hid hx; have HY := Lib.hid hy
        clear hx hy hu hv
        by_cases hxy : x = y
        · subst hxy
          go_wp2
          go_quiet (fail)
          go_wp2
          refine ⟨⟨k + 1, by omega, by go_num, ?_, by first | exact Quiet.add _ _ | exact Quiet.add2 _ _ _⟩, by simp [intOf]; omega⟩
          rw [List.take_add_one, List.take_add_one, HX.out, HY.out, HTK.out]
        · have hbn : (x == y) = false := by simpa using hxy
          go_wp2
          go_quiet (fail)
          go_wp2
          go_ret
          refine ⟨ret_bool (Eq.symm (decide_eq_false fun e => hxy ?_)), Quiet.add2 _ _ _⟩
          have h1 := HX.out; have h2 := HY.out
          rw [e, h2] at h1
          exact (Option.some.inj h1).symm
      · go_wp2
        go_ret
        refine ⟨ret_bool (Eq.symm (decide_eq_true ?_)), Quiet.add _ _⟩
        have h1 := HTK.out
        have h2 := HLA.out
        have h3 := HLB.out
        rwa [List.take_of_length_le (by omega), List.take_of_length_le (by omega)] at h1
  · go_enter Try.func16, Try.ntmps16
    have hbn : (n == m) = false := by simpa using hnm
    go_wp2
    go_ret
    refine ⟨ret_bool (Eq.symm (decide_eq_false fun e => hnm ?_)), Quiet.refl _⟩
    have h2 := HLA.out
    have h3 := HLB.out
    rw [← h2, ← h3, e]

def st3 : List S3 := [⟨2, 1, 1⟩, ⟨1, 2, 1⟩, ⟨1, 1, 7⟩]
theorem ord_st3 : ordZ st3 = [2, 1, 0] := by
  have h : List.finRange st3.length = [⟨0, by decide⟩, ⟨1, by decide⟩, ⟨2, by decide⟩] := by decide
  unfold ordZ ordP
  rw [h]
  simp [isort, merge_cons, ltP, lessS, st3, numP]

theorem next1 : nextN 5 3 = 6 ∧ nextE 5 3 = 0 := by decide
theorem next2 : nextN 5 9 = 9 ∧ nextE 5 9 = 0 := by decide
theorem next3 : nextN 5 1048582 = 0 ∧ nextE 5 1048582 = 14 := by decide

set_option maxHeartbeats 3200000 in
theorem clkAwake_any (w : World) : Calls Try.prog 9 #[] w fun e w' => e = .returned (.bool true) ∧ Below w.heap.size w w' := by
  have N1 : Hid (∀ W, Calls Try.prog 10 #[.int .i64 5, .int .i64 3] W fun e w' => e = .returned (.tuple #[.int .i64 6, .int .i64 0]) ∧ w' = W) := fun W => by
    have := clkNext_any 5 3 W (by omega) (by omega); rwa [next1.1, next1.2] at this
  have N2 : Hid (∀ W, Calls Try.prog 10 #[.int .i64 5, .int .i64 9] W fun e w' => e = .returned (.tuple #[.int .i64 9, .int .i64 0]) ∧ w' = W) := fun W => by
    have := clkNext_any 5 9 W (by omega) (by omega); rwa [next2.1, next2.2] at this
  have N3 : Hid (∀ W, Calls Try.prog 10 #[.int .i64 5, .int .i64 1048582] W fun e w' => e = .returned (.tuple #[.int .i64 0, .int .i64 14]) ∧ w' = W) := fun W => by
    have := clkNext_any 5 1048582 W (by omega) (by omega); rwa [next3.1, next3.2] at this
  have OR : Hid (∀ A W, RdS W A 3 3 st3 → Calls Try.prog 17 #[.slice A 3 3] W fun e w' => ∃ A' c', e = .returned (.slice A' 3 c') ∧ Rd w' A' 3 c' (vals .i64 [2, 1, 0]) ∧ Below W.heap.size W w') := fun A W h => by
    have := clkOrder_any A 3 3 st3 W h (by decide); rwa [ord_st3] at this
  have L1 : Hid (∀ W, Calls Try.prog 12 #[.agg #[.int .i64 1, .int .i64 0, .int .i64 0], .agg #[.int .i64 2, .int .i64 0, .int .i64 0]] W fun e w' => e = .returned (.bool true) ∧ Below W.heap.size W w') := fun W => clkLess_any ⟨1, 0, 0⟩ ⟨2, 0, 0⟩ W
  have L2 : Hid (∀ W, Calls Try.prog 12 #[.agg #[.int .i64 0, .int .i64 0, .int .i64 0], .agg #[.int .i64 0, .int .i64 0, .int .i64 0]] W fun e w' => e = .returned (.bool false) ∧ Below W.heap.size W w') := fun W => clkLess_any ⟨0, 0, 0⟩ ⟨0, 0, 0⟩ W
  go_enter Try.func9, Try.ntmps9
  go_wp2_with fail
  refine (N1.out _).mono ?_
  rintro e w1 ⟨rfl, rfl⟩
  go_wp2_with fail
  refine (N2.out _).mono ?_
  rintro e w1 ⟨rfl, rfl⟩
  go_wp2_with fail
  refine (N3.out _).mono ?_
  rintro e w1 ⟨rfl, rfl⟩
  go_wp2_with fail
  refine (OR.out _ _ (rdg_new s3len w1 st3 _ 23 rfl rfl (by decide) rfl)).mono ?_
  rintro e w2 ⟨A, c, rfl, hR, bb⟩
  have B2 := below_then (below_new (Below.refl w1.heap.size w1) _) bb
  have R2 := Lib.hid hR
  clear hR bb
  have B3 := below_new B2 (.cells #[.int .i64 2, .int .i64 1, .int .i64 0] 3)
  go_wp2_with fail
  refine (clkSame_any _ _ 3 3 _ 3 [2, 1, 0] [2, 1, 0] _ (R2.out.alloc _) (rd_at w2 (vals .i64 [2, 1, 0]) 3 rfl (by decide) rfl)).mono ?_
  rintro e w3 ⟨rfl, q3⟩
  have B4 := below_quiet B3 q3
  go_wp2_with fail
  refine (L1.out _).mono ?_
  rintro e w4 ⟨rfl, b4⟩
  have B5 := below_then B4 b4
  go_wp2_with fail
  refine (L2.out _).mono ?_
  rintro e w5 ⟨rfl, b5⟩
  have B6 := below_then B5 b5
  go_wp2
  go_ret
  exact ⟨rfl, B6⟩
end Go.Proofs.Ythhacniljipegaa
