/- The row of numbers with which bytes begin, as the answer of package code gets it. -/
import Derived.Test.YtbajdehcomheaaaRows
import Derived.Test.YtbajdehcomheaaaMem
import Derived.Test.YtbajdehcomheaaaCodeGetNums
namespace Go.Proofs.Ytbajdehcomheaaa
open Go.RowKit

set_option maxHeartbeats 1600000 in
theorem refGetNums_any (A : Option Addr) (n c : Nat) (l : List Int) (w : World) (hrd : Rd w A n c (vals .u8 l)) (hb : ∀ x ∈ l, 0 ≤ x ∧ x ≤ 255) (hsm : n ≤ 4294967296) :
    Calls Try.prog 20 #[.slice A n c] w fun e w' => NumsRet (numsZ l) e w' ∧ Below w.heap.size w w' := by
  have hn := hrd.le
  have hcap := hrd.cap
  have hll : l.length = n := by simpa using hrd.len
  have HLL := Lib.hid hll; clear hll
  have HB := Lib.hid hb; clear hb
  have HRD := Lib.hid hrd; clear hrd
  cases hg : getZ l with
  | none =>
    have HNO : Hid (numsZ l = none) := by show _ = _; simp [numsZ, hg]
    have HG := Lib.hid hg; clear hg
    go_enter Try.func20, Try.ntmps20
    go_wp2_with (go_at_call 16; refine (refGet_none HRD.out HB.out HG.out).mono ?_; rintro e w' ⟨rfl, hbel⟩)
    go_ret3
    exact ⟨by rw [HNO.out]; rfl, hbel⟩
  | some p =>
    obtain ⟨z, k0⟩ := p
    have hgs := getZ_some HB.out hg
    have hz1 := hgs.1.1
    have hz2 := hgs.1.2
    have hk0 := hgs.2.2.2.1
    have hkl := hgs.2.2.2.2
    rw [HLL.out] at hkl
    clear hgs
    obtain ⟨b, o, _, rfl, hbw, _, _⟩ := HRD.out.at_ (show 0 < n by omega)
    by_cases hz0 : 0 ≤ z
    · have HY : Hid (numsZ l = numsI z.toNat [] k0 l) := by show _ = _; simp [numsZ, hg, hz0]
      obtain ⟨m, rfl⟩ := Int.eq_ofNat_of_zero_le hz0
      have HG := Lib.hid hg; clear hg
      go_enter Try.func20, Try.ntmps20
      go_wp2_with (go_at_call 16; refine (refGet_some HRD.out HB.out HG.out).mono ?_; rintro e w1 ⟨rfl, hbel⟩)
      go_loopw [6, 8, 9] (fun a v i wr => ∃ (k at_ : Nat) (acc : List Int), k ≤ m ∧ i = .int .i64 k ∧ a = .int .i64 at_ ∧ at_ ≤ n ∧ k ≤ at_ ∧ Hid (acc.length = k) ∧ Hid (numsZ l = numsI (m - k) acc at_ l) ∧
        Hid (wr.ownsRow w.heap.size 3 1 v acc.length (vals .i64 acc)) ∧ Below w.heap.size w wr) (fun _ _ i _ => m - (intOf i).toNat)
      case atStart => exact ⟨0, k0, [], Nat.zero_le _, rfl, rfl, hkl, Nat.zero_le _, rfl, HY.out, World.ownsRow_nil _ _ _ _, hbel⟩
      case round =>
        obtain ⟨k, at_, acc, hk, rfl, rfl, hat, hka, hal, hnum, hown, hbel⟩ := hrel
        have hsz := hbel.size
        by_cases hkm : k < m
        · have hstep := numsI_step hkm acc at_ l
          have hrdw := HRD.out.below hbel
          have hai : ((at_ : Nat) : Int) ≤ (n : Int) := by omega
          cases hg : getZ (l.drop at_) with
          | none =>
            have HNO : Hid (numsZ l = none) := by show _ = _; rw [hnum.out, hstep, hg]
            clear hstep
            by_cases hca : c = at_
            · subst hca
              have HS : Hid (Rd wr (some ⟨b, o, none⟩) 0 0 (vals .u8 [])) := Rd.empty_ _ _ (by simp [maxLen])
              clear hg hrdw
              go_wp2_with (go_at_call 16; refine (refGet_none HS.out (by simp) rfl).mono ?_; rintro e w' ⟨rfl, hbel2⟩)
              go_ret3
              exact ⟨by rw [HNO.out]; rfl, hbel.trans (hbel2.mono hsz)⟩
            · have hs := hrdw.cut8 hat
              rw [if_neg hca] at hs
              have HS := Lib.hid hs; have HG := Lib.hid hg; clear hs hg hrdw
              go_wp2_with (go_at_call 16; refine (refGet_none HS.out (fun x hx => HB.out x (List.mem_of_mem_drop hx)) HG.out).mono ?_; rintro e w' ⟨rfl, hbel2⟩)
              go_ret3
              exact ⟨by rw [HNO.out]; rfl, hbel.trans (hbel2.mono hsz)⟩
          | some p =>
            obtain ⟨x, u⟩ := p
            have hgs := getZ_some (fun x hx => HB.out x (List.mem_of_mem_drop hx)) hg
            have hu0 := hgs.2.2.2.1
            have hu1 := hgs.2.2.2.2
            rw [List.length_drop, HLL.out] at hu1
            have hnx : Hid (numsZ l = numsI (m - (k + 1)) (acc ++ [x]) (at_ + u) l) := by show _ = _; rw [hnum.out, hstep, hg]
            have hca : ¬ c = at_ := by omega
            have hs := hrdw.cut8 hat
            rw [if_neg hca] at hs
            have HS := Lib.hid hs; have HG := Lib.hid hg; clear hs hg hrdw hstep hgs
            have hacc : acc.length < 17179869184 := by rw [hal.out]; omega
            go_wp2_with (first
              | (go_at_call 16; refine (refGet_some HS.out (fun x hx => HB.out x (List.mem_of_mem_drop hx)) HG.out).mono ?_; rintro e w' ⟨rfl, hbel2⟩)
              | (at_builtin; refine wpList_push rfl (.tmp 40) (.tmp 42) _ rfl 3 Try.underlying32 _ 8 Try.infoInt rfl (by decide) w.heap.size _ _ _ (.int .i64 x) rfl rfl (own_below hown.out hbel2) rfl hacc (hbel.trans (hbel2.mono hsz)) (by have := hbel2.size; omega) ?_; intro v1 w3 hown1 hbel3 hsz3))
            refine ⟨⟨k + 1, at_ + u, acc ++ [x], by omega, by go_num, by go_num, by omega, by omega, by show _ = _; rw [List.length_append, hal.out]; rfl, hnx, ?_, hbel3⟩, by simp [intOf]; omega⟩
            show World.ownsRow _ _ _ _ _ _ _
            simpa using hown1
        · obtain rfl : k = m := by omega
          have hdone : Hid (numsZ l = some (acc, at_)) := by
            show _ = _
            rw [hnum.out, Nat.sub_self]; rfl
          go_wp2
          go_ret3
          obtain ⟨A', c', h1, h2⟩ := Rd.of_own hown.out
          rw [hdone.out]
          refine ⟨⟨A', c', ?_, h2⟩, hbel⟩
          rw [← h1]; rfl
    · have HNO : Hid (numsZ l = none) := by show _ = _; simp [numsZ, hg, hz0]
      have HG := Lib.hid hg; clear hg
      go_enter Try.func20, Try.ntmps20
      go_wp2_with (go_at_call 16; refine (refGet_some HRD.out HB.out HG.out).mono ?_; rintro e w' ⟨rfl, hbel⟩)
      go_ret3
      exact ⟨by rw [HNO.out]; rfl, hbel⟩
end Go.Proofs.Ytbajdehcomheaaa
