/- The pure helpers of package code and of its answer: a number turned, and turned back. -/
import Derived.Test.YtijhcoidhlmecaaRows
import Derived.Test.YtijhcoidhlmecaaMem
import Derived.Test.YtijhcoidhlmecaaCodeMath
namespace Go.Proofs.Ytijhcoidhlmecaa
set_option maxRecDepth 100000
open Go.RowKit

set_option maxHeartbeats 400000 in
theorem turn_any (n : Int) (w : World) (h1 : -9223372036854775808 ≤ n) (h2 : n ≤ 9223372036854775807) :
    Calls Try.prog 53 #[.int .i64 n] w fun e w' => e = .returned (.int .u64 (turnZ n)) ∧ w = w' := by
  by_cases h : n < 0
  · go_enter Try.func53, Try.ntmps53
    go_wp2
    go_ret
    refine ⟨ret_int ?_, rfl⟩
    unfold turnZ; rw [if_pos (by omega)]; omega
  · go_enter Try.func53, Try.ntmps53
    go_wp2
    go_ret
    refine ⟨ret_int ?_, rfl⟩
    unfold turnZ; rw [if_neg (by omega)]

set_option maxHeartbeats 400000 in
theorem turned_any (n : Int) (w : World) (h1 : -9223372036854775808 ≤ n) (h2 : n ≤ 9223372036854775807) :
    Calls Try.prog 50 #[.int .i64 n] w fun e w' => e = .returned (.int .u64 (turnZ n)) ∧ w = w' := by
  by_cases h : 0 ≤ n
  · go_enter Try.func50, Try.ntmps50
    go_wp2
    go_ret
    refine ⟨ret_int ?_, rfl⟩
    unfold turnZ; rw [if_neg (by omega)]
  · go_enter Try.func50, Try.ntmps50
    go_wp2
    go_ret
    refine ⟨ret_int ?_, rfl⟩
    unfold turnZ; rw [if_pos (by omega)]; omega

set_option maxHeartbeats 400000 in
theorem turnBack_any (u : Int) (w : World) (h1 : 0 ≤ u) (h2 : u ≤ 18446744073709551615) :
    Calls Try.prog 48 #[.int .u64 u] w fun e w' => e = .returned (.int .i64 (backZ u)) ∧ w = w' := by
  by_cases h : u % 2 = 1
  · have hb : (u % 2 == 1) = true := by simpa using h
    have H := Lib.hid h; clear h
    go_enter Try.func48, Try.ntmps48
    go_wp2
    go_ret
    refine ⟨ret_int ?_, rfl⟩
    unfold backZ; rw [if_pos H.out]
  · have hb : (u % 2 == 1) = false := by simpa using h
    have H := Lib.hid h; clear h
    go_enter Try.func48, Try.ntmps48
    go_wp2
    go_ret
    refine ⟨ret_int ?_, rfl⟩
    unfold backZ; rw [if_neg H.out]
end Go.Proofs.Ytijhcoidhlmecaa
