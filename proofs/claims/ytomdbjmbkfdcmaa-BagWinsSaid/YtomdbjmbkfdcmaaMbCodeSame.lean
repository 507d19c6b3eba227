/- Two rows of bytes, or of numbers, held against each other: true just if they are the same. -/
import Derived.Test.YtomdbjmbkfdcmaaRows
import Derived.Test.YtomdbjmbkfdcmaaMbBase
import Derived.Deep.QuietTactic
import Derived.BigQuiet
namespace Go.Proofs.Ytomdbjmbkfdcmaa
set_option maxRecDepth 100000
open Go.RowKit

set_option maxHeartbeats 400000 in
theorem ints_any (A B : Option Addr) (n m c d : Nat) (xs ys : List Int) (w : World) (ha : Rd w A n c (vals .i64 xs)) (hb : Rd w B m d (vals .i64 ys)) :
    Calls Try.prog 46 #[.slice A n c, .slice B m d] w fun e w' => e = .returned (.bool (decide (xs = ys))) ∧ Quiet w w' := by
  have hn := ha.le
  have hm := hb.le
  have hla : xs.length = n := by simpa using ha.len
  have hlb : ys.length = m := by simpa using hb.len
  have HA := Lib.hid ha; have HB := Lib.hid hb; have HLA := Lib.hid hla; have HLB := Lib.hid hlb
  clear ha hb hla hlb
  by_cases hnm : n = m
  · subst hnm
    go_enter Try.func46, Try.ntmps46
    go_wp2
    go_loopw [5] (fun i wr => ∃ k : Nat, k ≤ n ∧ i = .int .i64 k ∧ xs.take k = ys.take k ∧ Quiet w wr) (fun i _ => n - (intOf i).toNat)
    case atStart => exact ⟨0, Nat.zero_le _, rfl, by simp, Quiet.refl _⟩
    case round =>
      obtain ⟨k, hk, rfl, htk, hq⟩ := hrel
      obtain ⟨dn, rfl⟩ := hq
      have HTK := Lib.hid htk
      clear htk
      by_cases hlt : k < n
      · obtain ⟨b, o, u, rfl, _, hu, hcu⟩ := HA.out.at_ hlt
        obtain ⟨b', o', v, rfl, _, hv, hcv⟩ := HB.out.at_ hlt
        obtain ⟨x, hx, rfl⟩ := vals_at hu
        obtain ⟨y, hy, rfl⟩ := vals_at hv
        have HX := Lib.hid hx; have HY := Lib.hid hy
        clear hx hy hu hv
        by_cases hxy : x = y
        · subst hxy
          go_wp2
          go_quiet (fail)
          go_wp2
          refine ⟨⟨k + 1, by omega, by go_num, ?_, by first | exact Quiet.add _ _ | exact Quiet.add2 _ _ _⟩, by simp [intOf]; omega⟩
          rw [List.take_add_one, List.take_add_one, HX.out, HY.out, HTK.out]
        · have hbn : (x == y) = false := by simpa using hxy
          go_wp2
          go_quiet (fail)
          go_wp2
          go_ret
          refine ⟨ret_bool (Eq.symm (decide_eq_false fun e => hxy ?_)), Quiet.add2 _ _ _⟩
          have h1 := HX.out; have h2 := HY.out
          rw [e, h2] at h1
          exact (Option.some.inj h1).symm
      · go_wp2
        go_ret
        refine ⟨ret_bool (Eq.symm (decide_eq_true ?_)), Quiet.add _ _⟩
        have h1 := HTK.out
        have h2 := HLA.out
        have h3 := HLB.out
        rwa [List.take_of_length_le (by omega), List.take_of_length_le (by omega)] at h1
  · go_enter Try.func46, Try.ntmps46
    have hbn : (n == m) = false := by simpa using hnm
    go_wp2
    go_ret
    refine ⟨ret_bool (Eq.symm (decide_eq_false fun e => hnm ?_)), Quiet.refl _⟩
    have h2 := HLA.out
    have h3 := HLB.out
    rw [← h2, ← h3, e]

theorem ints_is {A B : Option Addr} {n m c d : Nat} (xs ys : List Int) {w : World} (ha : Rd w A n c (vals .i64 xs)) (hb : Rd w B m d (vals .i64 ys)) {r : Bool} (h : decide (xs = ys) = r) :
    Calls Try.prog 46 #[.slice A n c, .slice B m d] w fun e w' => e = .returned (.bool r) ∧ Quiet w w' := by
  subst h; exact ints_any A B n m c d xs ys w ha hb
end Go.Proofs.Ytomdbjmbkfdcmaa

