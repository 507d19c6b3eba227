/- The live question at the head of each statement of layer 1: it holds. -/
import Derived.Test.YtbajdehcomheaaaRows
import Derived.Test.YtbajdehcomheaaaMem
import Derived.Test.YtbajdehcomheaaaCodeRefNums
namespace Go.Proofs.Ytbajdehcomheaaa
open Go.RowKit

theorem get1 : getV (getZ [128, 1, 9]) = .tuple #[.int .i64 64, .int .i64 2, .int .i64 0] := by kernel_rfl
theorem get2 : getV (getZ [128, 0]) = .tuple #[.int .i64 0, .int .i64 0, .int .i64 3] := by kernel_rfl
theorem get3 : textV (textZ [4, 97, 98, 7]) = .tuple #[.string ⟨#[97, 98]⟩, .int .i64 3, .int .i64 0] := by kernel_rfl
theorem get4 : numsZ [4, 2, 1] = some ([1, -1], 3) := by kernel_rfl
theorem put1 : putZ (-64) = [127] := by kernel_rfl
theorem put2 : putZ 64 = [128, 1] := by kernel_rfl
theorem put3 : putZ 2 ++ sbytes ⟨#[97, 98]⟩ = [4, 97, 98] := by kernel_rfl
theorem put4 : putZ 2 ++ catZ [1, -1] = [4, 2, 1] := by kernel_rfl

set_option maxHeartbeats 1600000 in
set_option maxRecDepth 100000 in
theorem alive_any (w : World) : Calls Try.prog 11 #[] w fun e w' => e = .returned (.bool true) ∧ Below w.heap.size w w' := by
  have P1 : ∀ W, Calls Try.prog 13 #[.int .i64 (-64)] W (Fresh 5 .u8 [127] W) := fun W => by
    have := fresh (put_any (-64) W (by omega) (by omega)); rwa [put1] at this
  have P2 : ∀ W, Calls Try.prog 13 #[.int .i64 64] W (Fresh 5 .u8 [128, 1] W) := fun W => by
    have := fresh (put_any 64 W (by omega) (by omega)); rwa [put2] at this
  have T1 : ∀ W, Calls Try.prog 22 #[.string ⟨#[97, 98]⟩] W (Fresh 5 .u8 [4, 97, 98] W) := fun W => by
    have := fresh (text_any ⟨#[97, 98]⟩ W (by decide)); rwa [show putZ ((ByteArray.size ⟨#[97, 98]⟩ : Nat) : Int) = putZ 2 from rfl, put3] at this
  have N1 : ∀ W : World, Calls Try.prog 24 #[.slice (some ⟨W.heap.size, 0, none⟩) 2 2] (W.alloc (.cells #[.int .i64 1, .int .i64 (-1)] 3)) (Fresh 5 .u8 [4, 2, 1] (W.alloc (.cells #[.int .i64 1, .int .i64 (-1)] 3))) := fun W => by
    have := fresh (nums_any _ 2 2 [1, -1] _ (rd_new W (vals .i64 [1, -1]) 3 rfl (by decide)) (by simp [inI]) (by decide)); rw [show ((2 : Nat) : Int) = 2 from rfl, put4] at this; exact this
  have P1 := Lib.hid P1; have P2 := Lib.hid P2; have T1 := Lib.hid T1; have N1 := Lib.hid N1
  go_enter Try.func11, Try.ntmps11
  go_wp2_with fail
  refine (P1.out _).mono ?_
  rintro e w1 ⟨A1, c1, rfl, _, rd1, b1⟩
  go_wp2_with fail
  refine (P2.out _).mono ?_
  rintro e w2 ⟨A2, c2, rfl, _, rd2, b2⟩
  have rd1 := rd1.below b2
  have b2 := below_then b1 b2
  go_wp2_with fail
  refine (get_any _ _ _ [128, 1, 9] _ (rd_at _ (vals .u8 [128, 1, 9]) _ rfl (by decide) (by simp)) (by decide)).mono ?_
  rintro e w3 ⟨rfl, rfl⟩
  rw [get1]
  go_wp2_with fail
  refine (get_any _ _ _ [128, 0] _ (rd_at _ (vals .u8 [128, 0]) _ rfl (by decide) (by simp)) (by decide)).mono ?_
  rintro e w3 ⟨rfl, rfl⟩
  rw [get2]
  go_wp2_with fail
  refine (getText_any _ _ _ [4, 97, 98, 7] _ (rd_at _ (vals .u8 [4, 97, 98, 7]) _ rfl (by decide) (by simp)) (by decide)).mono ?_
  rintro e w3 ⟨rfl, b3⟩
  rw [get3]
  have rd1 := (((rd1.alloc _).alloc _).alloc _).below b3
  have rd2 := (((rd2.alloc _).alloc _).alloc _).below b3
  have b3 := below_then (below_new (below_new (below_new b2 _) _) _) b3
  go_wp2_with fail
  refine (getNums_any _ _ _ [4, 2, 1] _ (rd_at _ (vals .u8 [4, 2, 1]) _ rfl (by decide) (by simp)) (by decide) (by decide)).mono ?_
  rw [get4]
  rintro e w4 ⟨⟨A4, c4, rfl, rd4⟩, b4⟩
  have rd1 := (rd1.alloc _).below b4
  have rd2 := (rd2.alloc _).below b4
  have b4 := below_then (below_new b3 _) b4
  go_wp2_with fail
  refine (same_is [127] [127] (rd1.alloc _) (rd_at _ (vals .u8 [127]) _ rfl (by decide) (by simp)) (r := true) (by decide)).mono ?_
  rintro e w5 ⟨rfl, q5⟩
  have rd2 := (rd2.alloc _).below (q5.below _)
  have rd4 := (rd4.alloc _).below (q5.below _)
  have b5 := below_quiet (below_new b4 _) q5
  go_wp2_with fail
  refine (same_is [128, 1] [128, 1] (rd2.alloc _) (rd_at _ (vals .u8 [128, 1]) _ rfl (by decide) (by simp)) (r := true) (by decide)).mono ?_
  rintro e w6 ⟨rfl, q6⟩
  have rd4 := (rd4.alloc _).below (q6.below _)
  have b6 := below_quiet (below_new b5 _) q6
  go_wp2_with fail
  refine (ints_is [1, -1] [1, -1] (rd4.alloc _) (rd_at _ (vals .i64 [1, -1]) _ rfl (by decide) (by simp)) (r := true) (by decide)).mono ?_
  rintro e w7 ⟨rfl, q7⟩
  have b7 := below_quiet (below_new b6 _) q7
  go_wp2_with fail
  refine (T1.out _).mono ?_
  rintro e w8 ⟨A8, c8, rfl, _, rd8, b8⟩
  have b8 := below_then b7 b8
  go_wp2_with fail
  refine (same_is [4, 97, 98] [4, 97, 98] (rd8.alloc _) (rd_at _ (vals .u8 [4, 97, 98]) _ rfl (by decide) (by simp)) (r := true) (by decide)).mono ?_
  rintro e w9 ⟨rfl, q9⟩
  have b9 := below_quiet (below_new b8 _) q9
  go_wp2_with fail
  refine (N1.out _).mono ?_
  rintro e w10 ⟨A10, c10, rfl, _, rd10, b10⟩
  have b10 := below_then (below_new b9 _) b10
  go_wp2_with fail
  refine (same_is [4, 2, 1] [4, 2, 1] (rd10.alloc _) (rd_at _ (vals .u8 [4, 2, 1]) _ rfl (by decide) (by simp)) (r := true) (by decide)).mono ?_
  rintro e w11 ⟨rfl, q11⟩
  have b11 := below_quiet (below_new b10 _) q11
  go_wp2
  go_ret
  exact ⟨rfl, b11⟩
end Go.Proofs.Ytbajdehcomheaaa
