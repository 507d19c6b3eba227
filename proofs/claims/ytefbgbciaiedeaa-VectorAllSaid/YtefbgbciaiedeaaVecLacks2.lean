/- Layer 5: the row of what one lacks of another one: the code and the document's answer. -/
import Derived.Test.YtefbgbciaiedeaaVecLacks
namespace Go.Proofs.Ytefbgbciaiedeaa
set_option maxRecDepth 100000
open Go.RowKit

/-- all lacked dots of the first k devices, and j of the next one's -/
theorem lack_parts (a b : List Int) (ra : rightV a = true) (rb : rightV b = true) : ∃ (F : Nat → Nat → List D2) (L M : Nat → Nat), Hid (F 0 0 = []) ∧ Hid (∀ k j, F k j ++ [⟨(k : Int) + 1, ofN a k + 1 + (j : Int)⟩] = F k (j + 1)) ∧ Hid (∀ k, F k (M k) = F (k + 1) 0) ∧
    Hid (L 0 = 0) ∧ Hid (∀ k, L (k + 1) = L k + M k) ∧ Hid (∀ k, k ≤ 64 → L k ≤ 67108864) ∧ Hid (∀ k (j : Nat), (ofN a k + 1 + (j : Int) ≤ ofN b k) ↔ j < M k) ∧ Hid (∀ k, M k ≤ 1048576) ∧ Hid (∀ k, F k 0 = lackN a b k) ∧ Hid (L b.length = (lackN a b b.length).length) := by
  refine ⟨fun k j => lackN a b k ++ lackJ a k j, fun k => (lackN a b k).length, fun k => lackM a b k, by show _ = _; simp [lackN, lackJ], fun k j => ?_, fun k => ?_, by show _ = _; simp [lackN], fun k => lackN_len a b k, fun k hk => ?_, fun k j => ?_, fun k => ?_, fun k => ?_, rfl⟩
  · rw [List.append_assoc, lackJ_succ]
  · show lackN a b k ++ lackJ a k (lackM a b k) = lackN a b (k + 1) ++ lackJ a (k + 1) 0
    rw [← lackN_succ]; simp [lackJ]
  · show (lackN a b k).length ≤ 67108864
    have := lackN_le ra rb k; omega
  · show _ ↔ j < lackM a b k
    unfold lackM
    have h2 := ((rightV_iff a).1 ra).2 k
    have h3 := ((rightV_iff b).1 rb).2 k
    omega
  · show lackM a b k ≤ 1048576
    unfold lackM
    have h2 := ((rightV_iff a).1 ra).2 k
    have h3 := ((rightV_iff b).1 rb).2 k
    omega
  · simp [lackJ]

theorem wrong_none {a b : List Int} (h : rightV a = false ∨ rightV b = false) : lacksV a b = [] := by
  unfold lacksV; rcases h with h | h <;> simp [h]
theorem right_all {a b : List Int} (ha : rightV a = true) (hb : rightV b = true) : lacksV a b = lackN a b b.length := by
  unfold lacksV; simp [ha, hb]

set_option maxHeartbeats 6400000 in
theorem vecLacks_any (A B : Option Addr) (n m c d : Nat) (a b : List Int) (w : World) (ha : Rd w A n c (vals .i64 a)) (hb : Rd w B m d (vals .i64 b)) :
    Calls Try.prog 34 #[.slice A n c, .slice B m d] w fun e w' => ∃ A' n' c', e = .returned (.slice A' n' c') ∧ RdD w' A' n' c' (lacksV a b) ∧ Below w.heap.size w w' := by
  have PRA := Lib.hid (vecRight_any A n c a w ha)
  have PRB := Lib.hid (vecRight_any B m d b w hb)
  cases ra : rightV a with
  | false =>
    have HN : Hid (lacksV a b = []) := wrong_none (.inl ra)
    rw [HN.out]
    rw [ra] at PRA
    clear ha hb PRB HN ra
    go_enter Try.func34, Try.ntmps34
    go_wp2_with fail
    refine PRA.out.mono ?_
    rintro e w1 ⟨rfl, rfl⟩
    go_wp2
    go_ret
    exact ⟨_, _, _, rfl, RdG.nil_ _, Below.refl _ _⟩
  | true =>
    rw [ra] at PRA
    cases rb : rightV b with
    | false =>
      have HN : Hid (lacksV a b = []) := wrong_none (.inr rb)
      rw [HN.out]
      rw [rb] at PRB
      clear ha hb HN ra rb
      go_enter Try.func34, Try.ntmps34
      go_wp2_with fail
      refine PRA.out.mono ?_
      rintro e w1 ⟨rfl, rfl⟩
      go_wp2_with fail
      refine PRB.out.mono ?_
      rintro e w2 ⟨rfl, rfl⟩
      go_wp2
      go_ret
      exact ⟨_, _, _, rfl, RdG.nil_ _, Below.refl _ _⟩
    | true =>
      rw [rb] at PRB
      have HN : Hid (lacksV a b = lackN a b b.length) := right_all ra rb
      rw [HN.out]
      have hlb : b.length = m := by simpa using hb.len
      have hm64 : m ≤ 64 := by rw [← hlb]; exact ((rightV_iff b).1 rb).1
      obtain ⟨F, L, M, HF0, HF1, HF2, HL0, HL1, HLb, HMi, HMb, HFN, HLN⟩ := lack_parts a b ra rb
      have HAR := Lib.hid (((rightV_iff a).1 ra).2)
      have PG := Lib.hid (vecGap_any A B n m c d a b w ha hb ra rb)
      rw [← HLN.out, hlb] at PG
      obtain ⟨Z, HZ, MKK⟩ := made_dots
      have MK := MKK.out (L m) (by have := HLb.out m hm64; omega)
      rw [hlb] at HLN
      rw [hlb, ← HFN.out]
      have HB := Lib.hid hb
      have PA := Lib.hid (fun k W (hW : Below w.heap.size w W) => vecOf_any A n c a k W (ha.below hW))
      clear ha hb hlb HN ra rb HFN
      go_enter Try.func34, Try.ntmps34
      go_wp2_with fail
      refine PRA.out.mono ?_
      rintro e w1 ⟨rfl, rfl⟩
      go_wp2_with fail
      refine PRB.out.mono ?_
      rintro e w2 ⟨rfl, rfl⟩
      go_wp2_with fail
      refine PG.out.mono ?_
      rintro e w3 ⟨rfl, q3⟩
      have B3 := q3.below w2.heap.size
      clear q3
      go_wp2_with fail
      have BA := below_new B3 (Obj.cells (Z (L m)) 25)
      have HO0 : Hid ((w3.alloc (Obj.cells (Z (L m)) 25)).ownsRow w2.heap.size 25 2 (.slice (some ⟨w3.heap.size, 0, none⟩) 0 (L m)) 0 []) := World.ownsRow_made w3 _ (L m) B3.size (by have := HLb.out m hm64; simp only [maxLen]; omega) (HZ.out _)
      clear MK
      go_loopw [5, 22] (fun u v wr => ∃ k : Nat, v = .int .i64 k ∧ k ≤ m ∧ Hid (wr.ownsRow w2.heap.size 25 2 u (L k) ((F k 0).flatMap D2.cells)) ∧ Below w2.heap.size w2 wr) (fun _ v _ => m - (intOf v).toNat)
      case atStart => exact ⟨0, rfl, Nat.zero_le _, by show World.ownsRow _ _ _ _ _ _ _; rw [HF0.out, HL0.out]; exact HO0.out, BA⟩
      case round =>
        clear HO0 BA B3
        obtain ⟨k, rfl, hk, HO, HB2⟩ := hrel
        obtain ⟨w4, hw4⟩ : ∃ w4, w4 = wr := ⟨_, rfl⟩
        subst hw4
        by_cases hlt : k < m
        · have hlz : (k : Int) < (m : Int) := by omega
          have PX := Lib.hid (fun W (hW : Below w2.heap.size w2 W) => PA.out ((k : Int) + 1) W hW)
          rw [ofV_nat] at PX
          obtain ⟨bb, o, v, rfl, hbb, hv, hc0⟩ := HB.out.at_ (k := k) hlt
          obtain ⟨y, hy, rfl⟩ := vals_at hv
          have hy2 := Lib.hid (ofN_at hy)
          have HI := Lib.hid (HMi.out k)
          have hx1 := HAR.out k
          have HF1k := Lib.hid (HF1.out k)
          have HF2k := Lib.hid (HF2.out k)
          have HL1k := Lib.hid (HL1.out k)
          have hLb := HLb.out (k + 1) (by omega)
          have hMb := HMb.out k
          have HC : Hid (∀ W, Below w2.heap.size w2 W → W.cell? ⟨bb, o + k, none⟩ = some (.int .i64 y)) := fun W hW => (hW.cell (p := ⟨bb, o + k, none⟩) hbb).trans hc0
          rw [hy2.out] at HI
          obtain ⟨x, hx⟩ : ∃ x, Hid (ofN a k = x) := ⟨_, rfl⟩
          rw [hx.out] at PX HI hx1 HF1k
          have q1 : IntKind.i64.wrap ((k : Int) + 1) = (k : Int) + 1 := wrap_is (by omega)
          have q2 : IntKind.i64.wrap (x + 1) = x + 1 := wrap_is (by omega)
          rw [HL1k.out] at hLb
          clear hy hv hc0 hbb
          go_wp2_with fail
          refine (PX.out _ HB2).mono ?_
          rintro e w5 ⟨rfl, rfl⟩
          go_wp2_with fail
          go_loopw [5, 7] (fun u v wr => ∃ j : Nat, v = .int .i64 (x + 1 + (j : Int)) ∧ j ≤ M k ∧ Hid (wr.ownsRow w2.heap.size 25 2 u (L k + j) ((F k j).flatMap D2.cells)) ∧ Below w2.heap.size w2 wr) (fun _ v _ => (M k + (x + 1).toNat) - (intOf v).toNat)
          case atStart => exact ⟨0, by rw [show x + 1 + ((0 : Nat) : Int) = x + 1 by omega], Nat.zero_le _, HO, HB2⟩
          case round =>
            clear HO HB2
            obtain ⟨j, rfl, hj, HO, HB2⟩ := hrel
            have hc := HC.out _ HB2
            have hsz := HB2.size
            by_cases hjm : j < M k
            · have hle : x + 1 + (j : Int) ≤ y := (HI.out j).2 hjm
              have hq : L k + j < 4294967296 := by omega
              have q3 : IntKind.i64.wrap (x + 1 + (j : Int) + 1) = x + 1 + (j : Int) + 1 := wrap_is (by omega)
              have HFj := Lib.hid (HF1k.out j)
              go_wp2_with (at_builtin; refine wpList_pushD rfl (.tmp 38) (.tmp 43) rfl w2.heap.size _ (L k + j) (F k j) ⟨(k : Int) + 1, x + 1 + (j : Int)⟩ _ rfl rfl rfl HO.out hq HB2 hsz ?_; intro v1 w6 hown1 hbel1 hsz1; rw [HFj.out] at hown1)
              exact ⟨⟨j + 1, by first | rfl | (congr 1; omega), by omega, hown1, hbel1⟩, by simp [intOf]; omega⟩
            · have hle : ¬ x + 1 + (j : Int) ≤ y := fun h => hjm ((HI.out j).1 h)
              obtain rfl : j = M k := by omega
              rw [HF2k.out, ← HL1k.out] at HO
              go_wp2
              exact ⟨⟨k + 1, by go_num, by omega, HO, HB2⟩, by simp [intOf]; omega⟩
        · have hlz : ¬ (k : Int) < (m : Int) := by omega
          obtain rfl : k = m := by omega
          go_wp2
          go_ret
          obtain ⟨A', c', rfl, hr⟩ := RdG.own_ d2len (by decide) HO.out
          exact ⟨_, _, _, rfl, hr, HB2⟩

set_option maxHeartbeats 6400000 in
theorem refLacks_any (A B : Option Addr) (n m c d : Nat) (a b : List Int) (w : World) (ha : Rd w A n c (vals .i64 a)) (hb : Rd w B m d (vals .i64 b)) :
    Calls Try.prog 35 #[.slice A n c, .slice B m d] w fun e w' => ∃ A' n' c', e = .returned (.slice A' n' c') ∧ RdD w' A' n' c' (lacksV a b) ∧ Below w.heap.size w w' := by
  have PRA := Lib.hid (refVRight_any A n c a w ha)
  have PRB := Lib.hid (refVRight_any B m d b w hb)
  cases ra : rightV a with
  | false =>
    have HN : Hid (lacksV a b = []) := wrong_none (.inl ra)
    rw [HN.out]
    rw [ra] at PRA
    clear ha hb PRB HN ra
    go_enter Try.func35, Try.ntmps35
    go_wp2_with fail
    refine PRA.out.mono ?_
    rintro e w1 ⟨rfl, rfl⟩
    go_wp2
    go_ret
    exact ⟨_, _, _, rfl, RdG.nil_ _, Below.refl _ _⟩
  | true =>
    rw [ra] at PRA
    cases rb : rightV b with
    | false =>
      have HN : Hid (lacksV a b = []) := wrong_none (.inr rb)
      rw [HN.out]
      rw [rb] at PRB
      clear ha hb HN ra rb
      go_enter Try.func35, Try.ntmps35
      go_wp2_with fail
      refine PRA.out.mono ?_
      rintro e w1 ⟨rfl, rfl⟩
      go_wp2_with fail
      refine PRB.out.mono ?_
      rintro e w2 ⟨rfl, rfl⟩
      go_wp2
      go_ret
      exact ⟨_, _, _, rfl, RdG.nil_ _, Below.refl _ _⟩
    | true =>
      rw [rb] at PRB
      have HN : Hid (lacksV a b = lackN a b b.length) := right_all ra rb
      rw [HN.out]
      have hlb : b.length = m := by simpa using hb.len
      have hm64 : m ≤ 64 := by rw [← hlb]; exact ((rightV_iff b).1 rb).1
      obtain ⟨F, L, M, HF0, HF1, HF2, HL0, HL1, HLb, HMi, HMb, HFN, HLN⟩ := lack_parts a b ra rb
      have HAR := Lib.hid (((rightV_iff a).1 ra).2)
      rw [hlb] at HLN
      rw [hlb, ← HFN.out]
      have HB := Lib.hid hb
      have PA := Lib.hid (fun k W (hW : Below w.heap.size w W) => refOf_any A n c a k W (ha.below hW))
      have PB := Lib.hid (fun k W (hW : Below w.heap.size w W) => refOf_any B m d b k W (hb.below hW))
      clear ha hb hlb HN ra rb HFN HB
      go_enter Try.func35, Try.ntmps35
      go_wp2_with fail
      refine PRA.out.mono ?_
      rintro e w1 ⟨rfl, rfl⟩
      go_wp2_with fail
      refine PRB.out.mono ?_
      rintro e w2 ⟨rfl, rfl⟩
      go_wp2_with fail
      go_loopw [5, 6] (fun u v wr => ∃ k : Nat, v = .int .i64 ((k : Int) + 1) ∧ k ≤ m ∧ Hid (wr.ownsRow w2.heap.size 25 2 u (L k) ((F k 0).flatMap D2.cells)) ∧ Below w2.heap.size w2 wr) (fun _ v _ => m + 1 - (intOf v).toNat)
      case atStart => exact ⟨0, rfl, Nat.zero_le _, by show World.ownsRow _ _ _ _ _ _ _; rw [HF0.out, HL0.out]; exact World.ownsRow_nil _ _ _ _, Below.refl _ _⟩
      case round =>
        obtain ⟨k, rfl, hk, HO, HB2⟩ := hrel
        obtain ⟨w4, hw4⟩ : ∃ w4, w4 = wr := ⟨_, rfl⟩
        subst hw4
        have q1 : IntKind.i64.wrap ((k : Int) + 1) = (k : Int) + 1 := wrap_is (by omega)
        by_cases hlt : k < m
        · have hlz : (k : Int) + 1 ≤ (m : Int) := by omega
          have hlz2 : (k : Int) < (m : Int) := by omega
          have PX := Lib.hid (fun W (hW : Below w2.heap.size w2 W) => PA.out ((k : Int) + 1) W hW)
          have PY := Lib.hid (fun W (hW : Below w2.heap.size w2 W) => PB.out ((k : Int) + 1) W hW)
          rw [ofV_nat] at PX PY
          have HI := Lib.hid (HMi.out k)
          have hx1 := HAR.out k
          have HF1k := Lib.hid (HF1.out k)
          have HF2k := Lib.hid (HF2.out k)
          have HL1k := Lib.hid (HL1.out k)
          have hLb := HLb.out (k + 1) (by omega)
          have hMb := HMb.out k
          obtain ⟨y, hy⟩ : ∃ y, Hid (ofN b k = y) := ⟨_, rfl⟩
          rw [hy.out] at HI PY
          obtain ⟨x, hx⟩ : ∃ x, Hid (ofN a k = x) := ⟨_, rfl⟩
          rw [hx.out] at PX HI hx1 HF1k
          have q2 : IntKind.i64.wrap (x + 1) = x + 1 := wrap_is (by omega)
          have q4 : IntKind.i64.wrap ((k : Int) + 1 + 1) = (k : Int) + 1 + 1 := wrap_is (by omega)
          rw [HL1k.out] at hLb
          go_wp2_with fail
          refine (PX.out _ HB2).mono ?_
          rintro e w5 ⟨rfl, rfl⟩
          go_wp2_with fail
          go_loopw [5, 7] (fun u v wr => ∃ j : Nat, v = .int .i64 (x + 1 + (j : Int)) ∧ j ≤ M k ∧ Hid (wr.ownsRow w2.heap.size 25 2 u (L k + j) ((F k j).flatMap D2.cells)) ∧ Below w2.heap.size w2 wr) (fun _ v _ => (M k + (x + 1).toNat) - (intOf v).toNat)
          case atStart => exact ⟨0, by rw [show x + 1 + ((0 : Nat) : Int) = x + 1 by omega], Nat.zero_le _, HO, HB2⟩
          case round =>
            clear HO HB2
            obtain ⟨j, rfl, hj, HO, HB2⟩ := hrel
            have hsz := HB2.size
            by_cases hjm : j < M k
            · have hle : x + 1 + (j : Int) ≤ y := (HI.out j).2 hjm
              have hq : L k + j < 4294967296 := by omega
              have q3 : IntKind.i64.wrap (x + 1 + (j : Int) + 1) = x + 1 + (j : Int) + 1 := wrap_is (by omega)
              have HFj := Lib.hid (HF1k.out j)
              go_wp2_with fail
              refine (PY.out _ HB2).mono ?_
              rintro e w6 ⟨rfl, rfl⟩
              go_wp2_with (at_builtin; refine wpList_pushD rfl (.tmp 33) (.tmp 37) rfl w2.heap.size _ (L k + j) (F k j) ⟨(k : Int) + 1, x + 1 + (j : Int)⟩ _ rfl rfl rfl HO.out hq HB2 hsz ?_; intro v1 w7 hown1 hbel1 hsz1; rw [HFj.out] at hown1)
              exact ⟨⟨j + 1, by first | rfl | (congr 1; omega), by omega, hown1, hbel1⟩, by simp [intOf]; omega⟩
            · have hle : ¬ x + 1 + (j : Int) ≤ y := fun h => hjm ((HI.out j).1 h)
              obtain rfl : j = M k := by omega
              rw [HF2k.out, ← HL1k.out] at HO
              go_wp2_with fail
              refine (PY.out _ HB2).mono ?_
              rintro e w6 ⟨rfl, rfl⟩
              go_wp2
              exact ⟨⟨k + 1, by go_num, by omega, HO, HB2⟩, by simp [intOf]; omega⟩
        · have hlz : ¬ (k : Int) + 1 ≤ (m : Int) := by omega
          have hlz2 : ¬ (k : Int) < (m : Int) := by omega
          obtain rfl : k = m := by omega
          go_wp2
          go_ret
          obtain ⟨A', c', rfl, hr⟩ := RdG.own_ d2len (by decide) HO.out
          exact ⟨_, _, _, rfl, hr, HB2⟩
end Go.Proofs.Ytefbgbciaiedeaa
