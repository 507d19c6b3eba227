/- Layer 5: Trim, Join, Meet, Set: the document's answer. -/
import Derived.Test.YtomdbjmbkfdcmaaMbVecSet
namespace Go.Proofs.Ytomdbjmbkfdcmaa
set_option maxRecDepth 100000
open Go.RowKit

theorem endN_congr {a b : List Int} : ∀ n, (∀ k, k < n → ofN a k = ofN b k) → endN a n = endN b n
  | 0, _ => rfl
  | n + 1, h => by
    unfold endN
    rw [h n (by omega), endN_congr n (fun k hk => h k (by omega))]
theorem ofN_take {l : List Int} {n k : Nat} (h : k < n) : ofN (l.take n) k = ofN l k := by
  simp [ofN, List.getD, h]
theorem trim_shut {l : List Int} {n : Nat} (hl : l.length = n + 1) (h : ofN l n = 0) : trimV (l.take n) = trimV l := by
  have e : endV (l.take n) = endV l := by
    unfold endV
    rw [hl, List.length_take, show min n l.length = n by omega, endN_congr (a := l.take n) (b := l) n (fun k hk => ofN_take hk)]
    conv => rhs; unfold endN
    rw [if_pos h]
  unfold trimV
  rw [e, List.take_take, show min (endV l) n = endV l by rw [← e]; have := endV_le (l.take n); rw [List.length_take] at this; omega]
theorem trim_end {l : List Int} {n : Nat} (hl : l.length = n + 1) (h : ofN l n ≠ 0) : trimV l = l := by
  have e : endV l = n + 1 := by unfold endV; rw [hl]; unfold endN; rw [if_neg h]
  unfold trimV; rw [e, ← hl, List.take_length]
theorem trim_nil {l : List Int} (hl : l.length = 0) : trimV l = l := by
  obtain rfl := List.eq_nil_of_length_eq_zero hl
  rfl

set_option maxHeartbeats 1600000 in
theorem refTrim_any : ∀ (n : Nat) (A : Option Addr) (c : Nat) (l : List Int) (w : World), Rd w A n c (vals .i64 l) →
    Calls Try.prog 69 #[.slice A n c] w fun e w' => ∃ n', e = .returned (.slice A n' c) ∧ Rd w' A n' c (vals .i64 (trimV l)) ∧ w' = w := by
  intro n
  induction n with
  | zero =>
    intro A c l w h
    have HT : Hid (trimV l = l) := trim_nil (by simpa using h.len)
    rw [HT.out]
    have HH := Lib.hid h
    clear h
    go_enter Try.func69, Try.ntmps69
    go_wp2
    go_ret
    exact ⟨_, rfl, HH.out, rfl⟩
  | succ n ih =>
    intro A c l w h
    have hl : l.length = n + 1 := by simpa using h.len
    have hle := h.le
    have hcap := h.cap
    obtain ⟨b, o, v, hA, hb, hv, hc⟩ := h.at_ (k := n) (by omega)
    obtain ⟨z, hz, rfl⟩ := vals_at hv
    have hz0 := ofN_at hz
    have IH := Lib.hid (ih A c (l.take n) w (by have := h.upto (k := n) (m := c) (by omega) (by omega) (Nat.le_refl c); simpa [vals] using this))
    have HH := Lib.hid h
    obtain ⟨m, hm⟩ : ∃ m, m = n + 1 := ⟨_, rfl⟩
    have hn1 : (m : Int) - 1 = (n : Int) := by omega
    have SL : ∀ W : World, (Instr.slice 33 (.slice A m c) none (some (.int .i64 ((m : Int) - 1))) none).run Try.prog W = .ok (.slice A n c) W := fun W => by rw [hn1]; exact run_uptoV (by omega) W
    have q0 : (0 : Int) < (m : Int) := by omega
    have q1 : IntKind.i64.wrap ((m : Int) - 1) = (m : Int) - 1 := wrap_is (by omega)
    have q2 : (0 : Int) ≤ (m : Int) - 1 := by omega
    have q3 : (m : Int) - 1 < (m : Int) := by omega
    have q4 : ((m : Int) - 1).toNat = m - 1 := by omega
    have q5 : (1 : Int) ≤ (m : Int) := by omega
    have q6 : 0 < m := by omega
    have hc2 : w.cell? ⟨b, o + (m - 1), none⟩ = some (.int .i64 z) := by rw [show m - 1 = n by omega]; exact hc
    rw [← hm]
    rw [← hm] at HH
    subst hA
    rcases Decidable.em (z = 0) with h0 | h0
    · have HT : Hid (trimV (l.take n) = trimV l) := trim_shut hl (by rw [hz0, h0])
      rw [HT.out] at IH
      subst h0
      clear h hl hcap hv hc hz hz0 hm hn1
      go_enter Try.func69, Try.ntmps69
      go_wp2_with fail
      refine IH.out.mono ?_
      rintro e w1 ⟨n', rfl, h1, rfl⟩
      go_wp2
      go_ret
      exact ⟨_, rfl, h1, rfl⟩
    · have HT : Hid (trimV l = l) := trim_end hl (by rw [hz0]; exact h0)
      rw [HT.out]
      have hbn : (z == 0) = false := by simpa using h0
      clear h hl hcap hv hc hz hz0 hm hn1 SL
      go_enter Try.func69, Try.ntmps69
      go_wp2
      go_ret
      exact ⟨_, rfl, HH.out, rfl⟩

theorem row_more (N : Nat) (q : Nat → Int) : vals .i64 (rowV N q) ++ [.int .i64 (q N)] = vals .i64 (rowV (N + 1) q) := by
  simp [vals, rowV, List.range_succ]

set_option maxHeartbeats 3200000 in
theorem refSet_any (A : Option Addr) (n c : Nat) (l : List Int) (d x : Int) (w : World) (h : Rd w A n c (vals .i64 l)) (hn : n ≤ 4294967296) :
    Calls Try.prog 29 #[.slice A n c, .int .i64 d, .int .i64 x] w fun e w' => ∃ A' n' c', e = .returned (.slice A' n' c') ∧ Rd w' A' n' c' (vals .i64 (setV l d x)) ∧ Below w.heap.size w w' := by
  have hl : l.length = n := by simpa using h.len
  by_cases hout : d < 1 ∨ 64 < d
  · have PT := Lib.hid (refTrim_any n A c l w h)
    have HS : Hid (setV l d x = trimV l) := by show _ = _; rw [setV, if_pos hout]
    rw [HS.out]
    clear HS h hl
    rcases Decidable.em (d < 1) with h1 | h1
    · go_enter Try.func29, Try.ntmps29
      go_wp2_with fail
      refine PT.out.mono ?_
      rintro e w1 ⟨n', rfl, h1, rfl⟩
      go_wp2
      go_ret
      exact ⟨_, _, _, rfl, h1, Below.refl _ _⟩
    · have h2 : 64 < d := by omega
      go_enter Try.func29, Try.ntmps29
      go_wp2_with fail
      refine PT.out.mono ?_
      rintro e w1 ⟨n', rfl, h1, rfl⟩
      go_wp2
      go_ret
      exact ⟨_, _, _, rfl, h1, Below.refl _ _⟩
  · have h1 : ¬ d < 1 := by omega
    have h2 : ¬ 64 < d := by omega
    obtain ⟨D, rfl⟩ : ∃ D : Nat, d = (D : Int) := ⟨d.toNat, by omega⟩
    obtain ⟨N, hN⟩ : ∃ N, Hid (max n D = N) := ⟨_, rfl⟩
    have hNl : N ≤ 4294967296 := by have := hN.out; omega
    obtain ⟨q, hq⟩ : ∃ q : Nat → Int, Hid (q = fun k : Nat => if (k : Int) + 1 = (D : Int) then x else ofN l k) := ⟨_, rfl⟩
    have HS : Hid (setV l D x = trimV (rowV N q)) := by show _ = _; rw [setV, if_neg hout, hl, Int.toNat_natCast, hN.out, hq.out]
    rw [HS.out]
    obtain ⟨Z, hZ, MK⟩ := made_vecs
    have MM := MK.out D (by omega)
    have PL := Lib.hid (fun (B : Option Addr) W => refLong_any A B n D c D W)
    rw [hN.out] at PL
    have PA := Lib.hid (fun k W (hW : Below w.heap.size w W) => refOf_any A n c l k W (h.below hW))
    clear hout h hl HS hN hn MK hZ
    go_enter Try.func29, Try.ntmps29
    go_wp2_with fail
    go_loopw [7, 8] (fun u v wr => ∃ k : Nat, v = .int .i64 ((k : Int) + 1) ∧ k ≤ N ∧ Hid (wr.ownsRow w.heap.size 3 1 u k (vals .i64 (rowV k q))) ∧ Below w.heap.size w wr) (fun _ v _ => N + 1 - (intOf v).toNat)
    case atStart => exact ⟨0, rfl, Nat.zero_le _, World.ownsRow_nil _ _ _ _, Below.refl _ _⟩
    case round =>
      obtain ⟨k, rfl, hk, HO, HB⟩ := hrel
      have q1 : IntKind.i64.wrap ((k : Int) + 1) = (k : Int) + 1 := wrap_is (by omega)
      have HB1 := below_new HB (Obj.cells (Z D) 3)
      have HO1 := Lib.hid (own_below HO.out (below_new (Below.refl wr.heap.size wr) (Obj.cells (Z D) 3)))
      have hsz := HB1.size
      have hk64 : k < 17179869184 := by omega
      by_cases hlt : k < N
      · have hlz : (k : Int) + 1 ≤ (N : Int) := by omega
        have hlz2 : (k : Int) < (N : Int) := by omega
        rcases Decidable.em ((k : Int) + 1 = (D : Int)) with hkd | hkd
        · have hM : Hid (vals .i64 (rowV k q) ++ [.int .i64 x] = vals .i64 (rowV (k + 1) q)) := by show _ = _; rw [← row_more, hq.out]; simp only [hkd, if_true]
          have hbn : ((k : Int) + 1 == (D : Int)) = true := by simpa using hkd
          have HKD := Lib.hid hkd
          clear hkd
          go_wp2_with fail
          refine (PL.out _ _).mono ?_
          rintro e w1 ⟨rfl, hw1⟩
          have HB2 : Below w.heap.size w w1 := by rw [hw1]; exact HB1
          have HO2 := HO1.out
          rw [← hw1] at HO2
          have HO2 := Lib.hid HO2
          have hsz2 := HB2.size
          clear hw1 HO1 HB1 hsz
          go_wp2_with (at_builtin; refine wpList_push rfl (.tmp 28) (.tmp 30) _ rfl 3 Try.underlying33 _ 8 Try.infoInt rfl (by decide) w.heap.size _ _ _ (.int .i64 x) rfl rfl HO2.out rfl hk64 HB2 hsz2 ?_; intro v1 w5 hown1 hbel1 hsz1; rw [hM.out] at hown1)
          exact ⟨⟨k + 1, by go_num, by omega, hown1, hbel1⟩, by simp [intOf]; omega⟩
        · have hM : Hid (vals .i64 (rowV k q) ++ [.int .i64 (ofN l k)] = vals .i64 (rowV (k + 1) q)) := by show _ = _; rw [← row_more, hq.out]; simp only [hkd, if_false]
          have hbn : ((k : Int) + 1 == (D : Int)) = false := by simpa using hkd
          have PX := Lib.hid (fun W (hW : Below w.heap.size w W) => PA.out ((k : Int) + 1) W hW)
          rw [ofV_nat] at PX
          obtain ⟨y, hy⟩ : ∃ y, Hid (ofN l k = y) := ⟨_, rfl⟩
          rw [hy.out] at PX hM
          go_wp2_with fail
          refine (PL.out _ _).mono ?_
          rintro e w1 ⟨rfl, hw1⟩
          have HB2 : Below w.heap.size w w1 := by rw [hw1]; exact HB1
          have HO2 := HO1.out
          rw [← hw1] at HO2
          have HO2 := Lib.hid HO2
          have hsz2 := HB2.size
          clear hw1 HO1 HB1 hsz
          go_wp2_with fail
          refine (PX.out _ HB2).mono ?_
          rintro e w2 ⟨rfl, rfl⟩
          go_wp2_with (at_builtin; refine wpList_push rfl (.tmp 32) (.tmp 36) _ rfl 3 Try.underlying33 _ 8 Try.infoInt rfl (by decide) w.heap.size _ _ _ (.int .i64 y) rfl rfl HO2.out rfl hk64 HB2 hsz2 ?_; intro v1 w5 hown1 hbel1 hsz1; rw [hM.out] at hown1)
          exact ⟨⟨k + 1, by go_num, by omega, hown1, hbel1⟩, by simp [intOf]; omega⟩
      · have hlz : ¬ (k : Int) + 1 ≤ (N : Int) := by omega
        have hlz2 : ¬ (k : Int) < (N : Int) := by omega
        obtain rfl : k = N := by omega
        obtain ⟨Ao, co, rfl, hr⟩ := Rd.of_own HO1.out
        have PT := Lib.hid (refTrim_any k Ao co (rowV k q) _ hr)
        clear HO HO1 hr
        go_wp2_with fail
        refine (PL.out _ _).mono ?_
        rintro e w1 ⟨rfl, rfl⟩
        go_wp2_with fail
        refine PT.out.mono ?_
        rintro e w2 ⟨n', rfl, h1, rfl⟩
        go_wp2
        go_ret
        exact ⟨_, _, _, rfl, h1, HB1⟩
end Go.Proofs.Ytomdbjmbkfdcmaa

