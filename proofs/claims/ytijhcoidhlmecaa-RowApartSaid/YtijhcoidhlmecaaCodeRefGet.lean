/- The number with which bytes begin, as the answer of package code gets it. -/
import Derived.Test.YtijhcoidhlmecaaRows
import Derived.Test.YtijhcoidhlmecaaMem
import Derived.Test.YtijhcoidhlmecaaCodeGet
import Derived.Test.YtijhcoidhlmecaaCodeSame
import Derived.Test.YtijhcoidhlmecaaCodeCalls
import Derived.BigQuiet
import Derived.Deep.RegionWith
import Derived.Outline
import Derived.Deep.DeepCutAuto
import Derived.Deep.CutBlock
namespace Go.Proofs.Ytijhcoidhlmecaa
set_option maxRecDepth 100000
open Go.RowKit

theorem valF_step (l : List Int) (k i : Nat) (x : Int) (hi : i ≤ k) (hk : k < l.length) (hx : l[i]? = some x) :
    valF ((l.take (k + 1)).drop i) = x % 128 + 128 * valF ((l.take (k + 1)).drop (i + 1)) := by
  have h1 : i < (l.take (k + 1)).length := by rw [List.length_take]; omega
  have h2 : (l.take (k + 1))[i] = x := by
    rw [List.getElem_take]
    exact (List.getElem?_eq_some_iff.1 hx).2
  rw [List.drop_eq_getElem_cons h1, h2]
  rfl

set_option maxHeartbeats 1600000 in
theorem refGet_any (A : Option Addr) (n c : Nat) (l : List Int) (w : World) (hrd : Rd w A n c (vals .u8 l)) (hb : ∀ x ∈ l, 0 ≤ x ∧ x ≤ 255) :
    Calls Try.prog 41 #[.slice A n c] w fun e w' => e = .returned (getV (getZ l)) ∧ Below w.heap.size w w' := by
  have hn := hrd.le
  have hll : l.length = n := by simpa using hrd.len
  have HLL := Lib.hid hll; clear hll
  have HB := Lib.hid hb; clear hb
  have HRD := Lib.hid hrd; clear hrd
  go_enter Try.func41, Try.ntmps41
  go_upto_block 0 with (fail)
  go_cut [6] (fun s w' => ∃ k : Nat, k ≤ n ∧ k ≤ 10 ∧ s = .int .i64 k ∧ Hid (∀ j y, j < k → l[j]? = some y → 128 ≤ y) ∧ Hid (k < n → k < 10 → ∀ y, l[k]? = some y → y < 128) ∧ w = w')
  case first =>
    go_wp2
    go_loop [6] (fun i => ∃ k : Nat, k ≤ n ∧ k ≤ 10 ∧ i = .int .i64 k ∧ Hid (∀ j y, j < k → l[j]? = some y → 128 ≤ y)) (fun i => n - (intOf i).toNat)
    case atStart => exact ⟨0, Nat.zero_le _, by omega, rfl, fun j y hj => absurd hj (by omega)⟩
    case round =>
      obtain ⟨k, hk, hk10, rfl, hh⟩ := hrel
      by_cases hlt : k < n
      · obtain ⟨b, o, u, rfl, _, hu, hcu⟩ := HRD.out.at_ hlt
        obtain ⟨x, hx, rfl⟩ := vals_at hu
        have HX := Lib.hid hx; clear hx hu
        by_cases h10 : k < 10
        · by_cases h128 : x < 128
          · go_wp2
            go_meet
            exact ⟨k, hk, hk10, rfl, hh, fun _ _ y hy => by have := HX.out; rw [this] at hy; injection hy with hy; omega, rfl⟩
          · go_wp2
            refine ⟨⟨k + 1, by omega, by omega, by go_num, ?_⟩, by simp [intOf]; omega⟩
            intro j y hj hy
            by_cases hjk : j < k
            · exact hh.out j y hjk hy
            · obtain rfl : j = k := by omega
              have := HX.out; rw [this] at hy; injection hy with hy; omega
        · go_wp2
          go_meet
          exact ⟨k, hk, hk10, rfl, hh, fun _ h => absurd h (by omega), rfl⟩
      · go_wp2
        go_meet
        exact ⟨k, hk, hk10, rfl, hh, fun h => absurd h (by omega), rfl⟩
  case rest =>
    obtain ⟨k, hk, hk10, rfl, hh, hlow, rfl⟩ := hcut
    by_cases hstop : k = n ∨ k = 10
    · have hno : Hid (getZ l = none) := getZ_high HB.out (m := k) (by rw [HLL.out]; omega) hh.out
      by_cases hkn : k = n
      · subst hkn
        clear hstop
        go_wp2
        go_ret3
        exact ⟨by rw [hno.out]; rfl, Below.refl _ _⟩
      · have hknb : ((k : Int) == (n : Int)) = false := by simpa using (by omega : ¬ (k : Int) = n)
        obtain rfl : k = 10 := by omega
        clear hstop
        go_wp2
        go_ret3
        exact ⟨by rw [hno.out]; rfl, Below.refl _ _⟩
    · have hknb : ((k : Int) == (n : Int)) = false := by simpa using (by omega : ¬ (k : Int) = n)
      have hk10b : ((k : Int) == 10) = false := by simpa using (by omega : ¬ (k : Int) = 10)
      have hkn : k < n := by omega
      have hkl : k < 10 := by omega
      have hval : Hid _ := getZ_val HB.out (k := k) (by rw [HLL.out]; exact hkn) hh.out (hlow.out hkn hkl)
      clear hstop
      go_wp2
      go_loop [5, 7] (fun u i => ∃ (z m : Int), i = .int .i64 z ∧ -1 ≤ z ∧ z ≤ k ∧ u = .int .u64 m ∧ 0 ≤ m ∧ m ≤ 18446744073709551615 ∧ Hid (m = valF ((l.take (k + 1)).drop (z + 1).toNat) % 18446744073709551616)) (fun _ i => (intOf i + 1).toNat)
      case atStart =>
        refine ⟨k, 0, rfl, by omega, by omega, rfl, by omega, by omega, ?_⟩
        show (0 : Int) = _
        rw [List.drop_of_length_le (by rw [List.length_take]; omega)]
        simp [valF]
      case round =>
        obtain ⟨z, m, rfl, hz1, hzk, rfl, hm0, hm1, hm⟩ := hrel
        by_cases hz : 0 ≤ z
        · obtain ⟨j, rfl⟩ := Int.eq_ofNat_of_zero_le hz
          obtain ⟨b, o, u, rfl, _, hu, hcu⟩ := HRD.out.at_ (show j < n by omega)
          obtain ⟨x, hx, rfl⟩ := vals_at hu
          obtain ⟨hx0, hx1⟩ := HB.out x (List.mem_of_getElem? hx)
          have hstep : Hid _ := valF_step l k j x (by omega) (by rw [HLL.out]; omega) hx
          clear hx hu
          go_wp2
          refine ⟨⟨(j : Int) - 1, _, rfl, by omega, by omega, rfl, ?_, ?_, ?_⟩, by simp [intOf] <;> omega⟩
          · rw [IntKind.wrap_u64]; omega
          · rw [IntKind.wrap_u64]; omega
          · have h1 := hm.out
            have h2 := hstep.out
            show IntKind.u64.wrap _ = _
            rw [show ((j : Int) - 1 + 1).toNat = j from by omega, h2]
            rw [show ((j : Int) + 1).toNat = j + 1 from by omega] at h1
            simp only [IntKind.wrap_u64]
            omega
        · obtain rfl : z = -1 := by omega
          have hm' : Hid (m = valF (l.take (k + 1)) % 18446744073709551616) := hm.out
          clear hm hz1 hzk hz
          obtain ⟨b, o, _, rfl, _, _, _⟩ := HRD.out.at_ hkn
          have hkc : k + 1 ≤ c := by have := HRD.out.cap; omega
          have hkc0 : ¬ c = 0 := by omega
          have hkw : IntKind.i64.wrap ((k : Int) + 1) = (k : Int) + 1 := IntWalk.i64_in _ ⟨by omega, by omega⟩
          have hkc1 : ((k : Int) + 1) ≤ (c : Int) := by omega
          have hkc2 : (0 : Int) ≤ (k : Int) + 1 := by omega
          have hkc3 : ((k : Int) + 1).toNat = k + 1 := by omega
          have hbr := back_rng m hm0 hm1
          have put : ∀ (z : Int) (W : World), z = backZ m → Calls Try.prog 39 #[.int .i64 z] W (Fresh 5 .u8 (putZ (backZ m)) W) := by
            intro z W hz
            subst hz
            exact fresh (refPut_any _ _ hbr.1 hbr.2)
          have PUT := Lib.hid put; clear put
          have hodd : (m % 2 == 1) = false ∨ m % 2 = 1 := by
            by_cases h : m % 2 = 1
            · exact .inr h
            · exact .inl (by simpa using h)
          have HBR := Lib.hid hbr; clear hbr
          have HUP : Hid (Rd w (some ⟨b, o, none⟩) (k + 1) c (vals .u8 (l.take (k + 1)))) := by
            have h := HRD.out.upto (k := k + 1) (m := c) (by omega) hkc (Nat.le_refl _)
            show Rd _ _ _ _ _
            rw [vals, List.map_take]; exact h
          have HRES : Hid (getZ l = if putZ (backZ m) = l.take (k + 1) then some (backZ m, k + 1) else none) := by
            show _ = _
            rw [hval.out, ← hm'.out]
          clear hval hm'
          obtain ⟨bb, hbb⟩ : ∃ bb : Bool, Hid (decide (putZ (backZ m) = l.take (k + 1)) = bb) := ⟨_, rfl⟩
          rcases hodd with hodd | hodd
          · have hbm : Hid (m / 2 = backZ m) := by
              show _ = _
              unfold backZ; rw [if_neg (by simpa using hodd)]
            go_wp2
            go_region_with (first
              | (go_at_call 39; refine (PUT.out _ _ hbm.out).mono ?_; rintro e w2 ⟨B, cx, rfl, hown, hrd2, hbel⟩)
              | (go_at_call 23; refine (same_is (putZ (backZ m)) (l.take (k + 1)) hrd2 (Rd.below (w := w.drew) HUP.out hbel) hbb.out).mono ?_; rintro e w3 ⟨rfl, hq⟩))
            have hb3 : Below w.heap.size w w3 := (((Below.refl _ _).drew).trans hbel).trans (hq.below _)
            cases bb
            rotate_left
            · have hres := HRES.out
              rw [if_pos (of_decide_eq_true hbb.out)] at hres
              have HR := Lib.hid hres; clear hres
              have HBM := hbm; clear hbm
              go_wp2
              go_ret3
              refine ⟨?_, hb3⟩
              rw [HR.out, ← HBM.out]; rfl
            · have hres := HRES.out
              rw [if_neg (of_decide_eq_false hbb.out)] at hres
              have HR := Lib.hid hres; clear hres
              go_wp2
              go_ret3
              refine ⟨?_, hb3⟩
              rw [HR.out]; rfl
          · have hbm : Hid (-(m / 2) - 1 = backZ m) := by
              show _ = _
              unfold backZ; rw [if_pos hodd]
            go_wp2
            go_region_with (first
              | (go_at_call 39; refine (PUT.out _ _ hbm.out).mono ?_; rintro e w2 ⟨B, cx, rfl, hown, hrd2, hbel⟩)
              | (go_at_call 23; refine (same_is (putZ (backZ m)) (l.take (k + 1)) hrd2 (Rd.below (w := w.drew) HUP.out hbel) hbb.out).mono ?_; rintro e w3 ⟨rfl, hq⟩))
            have hb3 : Below w.heap.size w w3 := (((Below.refl _ _).drew).trans hbel).trans (hq.below _)
            cases bb
            rotate_left
            · have hres := HRES.out
              rw [if_pos (of_decide_eq_true hbb.out)] at hres
              have HR := Lib.hid hres; clear hres
              have HBM := hbm; clear hbm
              go_wp2
              go_ret3
              refine ⟨?_, hb3⟩
              rw [HR.out, ← HBM.out]; rfl
            · have hres := HRES.out
              rw [if_neg (of_decide_eq_false hbb.out)] at hres
              have HR := Lib.hid hres; clear hres
              go_wp2
              go_ret3
              refine ⟨?_, hb3⟩
              rw [HR.out]; rfl
end Go.Proofs.Ytijhcoidhlmecaa
