/- The bytes of a number, as package code lays them, and as its answer does. -/
import Derived.Test.YtijhcoidhlmecaaRows
import Derived.Test.YtijhcoidhlmecaaMem
import Derived.Test.YtijhcoidhlmecaaCodeNum
namespace Go.Proofs.Ytijhcoidhlmecaa
set_option maxRecDepth 100000
open Go.RowKit

theorem Try.infoByte : (Try.prog.info? 5).map (fun i => (i.zero, i.size, i.bytes)) = some (some (.int .u8 0), 1, 1) := by kernel_rfl
theorem Try.infoInt : (Try.prog.info? 3).map (fun i => (i.zero, i.size, i.bytes)) = some (some (.int .i64 0), 1, 8) := by kernel_rfl

set_option maxHeartbeats 800000 in
theorem refPut_any (n : Int) (w : World) (h1 : -9223372036854775808 ≤ n) (h2 : n ≤ 9223372036854775807) :
    Calls Try.prog 39 #[.int .i64 n] w fun e w' =>
      ∃ v, e = .returned v ∧ w'.ownsRow w.heap.size 5 1 v (putZ n).length (vals .u8 (putZ n)) ∧ Below w.heap.size w w' := by
  obtain ⟨i0, hi0, hz0, hz1, hz2⟩ := info_parts Try.infoByte
  obtain ⟨hr1, hr2⟩ := turn_rng n h1 h2
  go_enter Try.func39, Try.ntmps39
  go_wp2_with fail
  refine (turned_any n _ h1 h2).mono ?_
  rintro e w' ⟨rfl, rfl⟩
  go_wp2_with fail
  go_loopw [3, 4] (fun u v wr => ∃ (f : Nat) (z : Int) (out : List Int), u = .int .u64 z ∧ 0 ≤ z ∧ z < 128 ^ (f + 1) ∧ z ≤ 18446744073709551615 ∧ f ≤ 9 ∧ Hid (putZ n = out ++ putF (f + 1) z) ∧ out.length + f ≤ 10 ∧
      wr.ownsRow w.heap.size 5 1 v out.length (vals .u8 out) ∧ Below w.heap.size w wr) (fun u _ _ => (intOf u).toNat)
  case atStart => exact ⟨9, turnZ n, [], rfl, hr1, by simp only [show (128 : Int) ^ (9 + 1) = 1180591620717411303424 from by decide]; omega, hr2, by omega, rfl, by simp, World.ownsRow_nil _ _ _ _, Below.refl _ _⟩
  case round =>
    obtain ⟨f, z, out, rfl, hz, hzf, hzu, hf, hput, hol, hown, hbel⟩ := hrel
    by_cases hlt : z < 128
    · have hput' : Hid (putZ n = out ++ [z]) := by
        have h := hput.out
        rwa [putF_lt hlt] at h
      clear hput hzf
      have hsz := hbel.size
      go_wp2_with (at_builtin; refine wpList_push rfl (.tmp 18) (.tmp 21) _ rfl 5 Try.underlying35 _ 1 Try.infoByte rfl (by decide) w.heap.size _ _ _ (.int .u8 z) rfl rfl hown rfl (by omega) hbel hsz ?_; intro v1 w1 hown1 hbel1 hsz1)
      go_ret
      refine ⟨v1, rfl, ?_, hbel1⟩
      rw [hput'.out]
      simpa using hown1
    · cases f with
      | zero => simp at hzf; omega
      | succ f =>
        have hpw : (128 : Int) ^ (f + 1 + 1) = 128 ^ (f + 1) * 128 := Int.pow_succ _ _
        have hzf' : z / 128 < 128 ^ (f + 1) := by rw [hpw] at hzf; omega
        have hput' : Hid (putZ n = (out ++ [z % 128 + 128]) ++ putF (f + 1) (z / 128)) := by
          have h := hput.out
          rw [putF_ge (by omega)] at h
          rw [h, List.append_assoc]; rfl
        clear hput hzf hpw
        have hsz := hbel.size
        go_wp2_with (at_builtin; refine wpList_push rfl (.tmp 9) (.tmp 14) _ rfl 5 Try.underlying35 _ 1 Try.infoByte rfl (by decide) w.heap.size _ _ _ (.int .u8 (z % 128 + 128)) rfl rfl hown rfl (by omega) hbel hsz ?_; intro v1 w1 hown1 hbel1 hsz1)
        refine ⟨⟨f, z / 128, out ++ [z % 128 + 128], rfl, by omega, hzf', by omega, by omega, hput', by simp; omega, by simpa using hown1, hbel1⟩, by simp [intOf]; omega⟩
end Go.Proofs.Ytijhcoidhlmecaa
