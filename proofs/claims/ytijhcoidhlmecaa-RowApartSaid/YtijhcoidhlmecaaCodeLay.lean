/- Numbers laid behind bytes: package code's labelled loop. -/
import Derived.Test.YtijhcoidhlmecaaRows
import Derived.Test.YtijhcoidhlmecaaMem
import Derived.Test.YtijhcoidhlmecaaCodePut
import Derived.Deep.LoopGhost
import Derived.WalkMore
import Derived.Test.YtijhcoidhlmecaaBits
namespace Go.Proofs.Ytijhcoidhlmecaa
set_option maxRecDepth 100000
open Go.RowKit

def catZ (l : List Int) : List Int := l.flatMap putZ

set_option maxHeartbeats 800000 in
theorem lay_any (W0 w : World) (v : Value) (A : Option Addr) (n c : Nat) (xs l : List Int) (hown : w.ownsRow W0.heap.size 5 1 v xs.length (vals .u8 xs))
    (hrd : Rd W0 A n c (vals .i64 l)) (hbel : Below W0.heap.size W0 w) (hin : ∀ x ∈ l, inI x) (hlen : xs.length + 10 * n < 17179869184) :
    Calls Try.prog 46 #[v, .slice A n c] w fun e w' =>
      ∃ v', e = .returned v' ∧ w'.ownsRow W0.heap.size 5 1 v' (xs ++ catZ l).length (vals .u8 (xs ++ catZ l)) ∧ Below W0.heap.size W0 w' := by
  have hn := hrd.le
  have hll : l.length = n := by simpa using hrd.len
  have HLL := Lib.hid hll; clear hll
  have HRD := Lib.hid hrd; clear hrd
  have HIN := Lib.hid hin; clear hin
  go_enter Try.func46, Try.ntmps46
  go_wp2
  go_step3
  go_wp2
  go_step3
  go_wp2
  go_loopg [0, 10] n (fun g v i wr => ∃ (k : Nat) (out : List Int), g + k = n ∧ i = .int .i64 k ∧ Hid (out = xs ++ catZ (l.take k)) ∧ out.length ≤ xs.length + 10 * k ∧
      wr.ownsRow W0.heap.size 5 1 v out.length (vals .u8 out) ∧ Below W0.heap.size W0 wr)
  case atStart => exact ⟨0, xs, by omega, rfl, by show xs = _; simp [catZ], by omega, hown, hbel⟩
  case round =>
    obtain ⟨k, out, hk, rfl, hout, hol, hown, hbel⟩ := hrel
    by_cases hlt : k < n
    · obtain ⟨b, o, u, rfl, hb, hu, hcu⟩ := HRD.out.at_ hlt
      obtain ⟨x, hx, rfl⟩ := vals_at hu
      have hxi : inI x := HIN.out x (List.mem_of_getElem? hx)
      obtain ⟨hx1, hx2⟩ := hxi
      obtain ⟨hr1, hr2⟩ := turn_rng x hx1 hx2
      have hc2 : wr.cell? ⟨b, o + k, none⟩ = some (.int .i64 x) := (hbel.cell hb).trans hcu
      have hnext : Hid (xs ++ catZ (l.take (k + 1)) = out ++ putZ x) := by
        show _ = _
        rw [List.take_add_one, hx, hout.out]; simp [catZ, List.append_assoc]
      clear hcu hx hu hout
      go_wp2_with (go_at_call 53; refine (turn_any _ _ hx1 hx2).mono ?_; rintro e w' ⟨rfl, rfl⟩)
      obtain ⟨g0, rfl⟩ : ∃ g0 : Nat, g0 = gk := ⟨_, rfl⟩
      go_loopg [0, 7] 9 (fun g v u wr => ∃ (z : Int) (mid : List Int), u = .int .u64 z ∧ 0 ≤ z ∧ z < 128 ^ (g + 1) ∧ z ≤ 18446744073709551615 ∧ g ≤ 9 ∧ Hid (xs ++ catZ (l.take (k + 1)) = mid ++ putF (g + 1) z) ∧
        mid.length + (g + 1) ≤ xs.length + 10 * (k + 1) ∧ wr.ownsRow W0.heap.size 5 1 v mid.length (vals .u8 mid) ∧ Below W0.heap.size W0 wr)
      case atStart => exact ⟨turnZ x, out, rfl, hr1, by simp only [show (128 : Int) ^ (9 + 1) = 1180591620717411303424 from by decide]; omega, hr2, by omega, hnext, by omega, hown, hbel⟩
      case round =>
        obtain ⟨z, mid, rfl, hz, hzf, hzu, hf, hput, hml, hown, hbel⟩ := hrel
        have hsz := hbel.size
        by_cases hlt : z < 128
        · have hput' : Hid (xs ++ catZ (l.take (k + 1)) = mid ++ [z]) := by
            have h := hput.out
            rwa [putF_lt hlt] at h
          clear hput hzf
          go_wp2_with (at_builtin; refine wpList_push rfl (.tmp 18) (.tmp 21) _ rfl 5 Try.underlying35 _ 1 Try.infoByte rfl (by decide) W0.heap.size _ _ _ (.int .u8 z) rfl rfl hown rfl (by omega) hbel hsz ?_; intro v1 w1 hown1 hbel1 hsz1)
          go_roundg (g0 - 1)
          case measure => omega
          case rel => exact ⟨k + 1, mid ++ [z], by omega, by go_num, hput'.out.symm, by simp; omega, by simpa using hown1, hbel1⟩
        · obtain ⟨f, rfl⟩ : ∃ f, gk = f + 1 := by
            cases gk with
            | zero => simp at hzf; omega
            | succ f => exact ⟨f, rfl⟩
          have hpw : (128 : Int) ^ (f + 1 + 1) = 128 ^ (f + 1) * 128 := Int.pow_succ _ _
          have hzf' : z / 128 < 128 ^ (f + 1) := by rw [hpw] at hzf; omega
          have hput' : Hid (xs ++ catZ (l.take (k + 1)) = (mid ++ [z % 128 + 128]) ++ putF (f + 1) (z / 128)) := by
            have h := hput.out
            rw [putF_ge (by omega)] at h
            rw [h, List.append_assoc]; rfl
          clear hput hzf hpw
          go_wp2_with (at_builtin; refine wpList_push rfl (.tmp 23) (.tmp 28) _ rfl 5 Try.underlying35 _ 1 Try.infoByte rfl (by decide) W0.heap.size _ _ _ _ rfl rfl hown rfl (by omega) hbel hsz ?_; intro v1 w1 hown1 hbel1 hsz1)
          go_roundg f
          case measure => omega
          case rel =>
            refine ⟨z / 128, mid ++ [z % 128 + 128], rfl, by omega, hzf', by omega, by omega, hput', by simp; omega, ?_, hbel1⟩
            rw [u64_and127 z hz hzu, u8_or128_right _ (by omega) (by omega), show z % 128 % 256 = z % 128 from by omega] at hown1
            simpa using hown1
    · go_wp2
      rw [Exit.noGoto_ret]
      go_ret
      have h := hout.out
      rw [List.take_of_length_le (by rw [HLL.out]; omega)] at h
      exact ⟨u0, rfl, by rw [← h]; exact hown, hbel⟩
end Go.Proofs.Ytijhcoidhlmecaa
