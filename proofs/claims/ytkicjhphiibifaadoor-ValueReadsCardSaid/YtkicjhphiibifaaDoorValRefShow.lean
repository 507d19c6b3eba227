/- Layer 2: what a value shows: the document's answer. -/
import Derived.Test.YtkicjhphiibifaaDoorRows
import Derived.Test.YtkicjhphiibifaaDoorMem
import Derived.Test.YtkicjhphiibifaaDoorValMath
import Derived.Test.YtkicjhphiibifaaDoorValShow
import Derived.BigQuiet
import Derived.Deep.RegionWith
import Derived.Outline
import Derived.Deep.DeepCutAuto
import Derived.Deep.CutBlock
namespace Go.Proofs.YtkicjhphiibifaaDoor
set_option maxRecDepth 100000
open Go.RowKit

theorem nDigits_pow : ∀ (j u : Nat), u < 10 ^ (j + 1) → Lib.nDigits u ≤ j + 1 := by
  intro j
  induction j with
  | zero => intro u hu; rw [Lib.nDigits_small (by simpa using hu)]; exact Nat.le_refl _
  | succ j ih =>
    intro u hu
    by_cases h : u < 10
    · rw [Lib.nDigits_small h]; omega
    · rw [Lib.nDigits_big h]
      have := ih (u / 10) (by rw [Nat.pow_succ] at hu; omega)
      omega

theorem dec_len {u : Nat} (h : u < 18446744073709551616) : (Lib.decDigits u).length ≤ 20 := by
  rw [Lib.decDigits_length]
  exact nDigits_pow 19 u (by have : (10 : Nat) ^ (19 + 1) = 100000000000000000000 := by decide
                             omega)

theorem sizeOf_arr (l : List UInt8) : ByteArray.size ⟨l.toArray⟩ = l.length := rfl

set_option maxHeartbeats 1600000 in
theorem digits_any (n : Nat) (hn : n < 18446744073709551616) : ∀ w : World, Calls Tryd.prog 27 #[.int .u64 n] w fun e w' => e = .returned (.string ⟨(Lib.decDigits n).toArray⟩) ∧ Below w.heap.size w w' := by
  induction n using Nat.strongRecOn with
  | _ n ih =>
    intro w
    have hrd : Rd (w.alloc (.cells #[.int .u8 (48 + (n : Int) % 10)] 5)) (some ⟨w.heap.size, 0, none⟩) 1 1 (vals .u8 [48 + (n : Int) % 10]) := rd_new w (vals .u8 [48 + (n : Int) % 10]) 5 rfl (by decide)
    have hc0 := run_toText (P := Tryd.prog) 32 9 5 Tryd.underlying32 Tryd.underlying5 Tryd.underlying9 hrd
    clear hrd
    have ht : textOf [48 + (n : Int) % 10] = ⟨[UInt8.ofNat (48 + n % 10)].toArray⟩ := by
      have : (48 + (n : Int) % 10).toNat = 48 + n % 10 := by omega
      simp [textOf, this]
    rw [ht] at hc0
    clear ht
    by_cases h10 : n < 10
    · obtain ⟨T, hc, hD⟩ : ∃ T : ByteArray, (convert 32 9 (.slice (some ⟨w.heap.size, 0, none⟩) 1 1)).run Tryd.prog (w.alloc (.cells #[.int .u8 (48 + (n : Int) % 10)] 5)) = .ok (.string T) (w.alloc (.cells #[.int .u8 (48 + (n : Int) % 10)] 5)) ∧ Hid (T = ⟨(Lib.decDigits n).toArray⟩) :=
        ⟨_, hc0, Lib.hid (by rw [Lib.decDigits, dif_pos h10, Nat.mod_eq_of_lt h10])⟩
      clear ih hc0
      have h10' : (n : Int) < 10 := by omega
      go_enter Tryd.func27, Tryd.ntmps27
      go_wp2
      all_goals go_ret
      all_goals exact ⟨by rw [← hD.out]; rfl, by first | exact below_new (Below.refl _ _) _ | exact (below_new (Below.refl _ _) _).drew⟩
    · obtain ⟨T, R, hc, IH, hD, hs⟩ : ∃ T R : ByteArray, (convert 32 9 (.slice (some ⟨w.heap.size, 0, none⟩) 1 1)).run Tryd.prog (w.alloc (.cells #[.int .u8 (48 + (n : Int) % 10)] 5)) = .ok (.string T) (w.alloc (.cells #[.int .u8 (48 + (n : Int) % 10)] 5)) ∧
          Hid (∀ W : World, Calls Tryd.prog 27 #[.int .u64 ((n : Int) / 10)] W fun e w' => e = .returned (.string R) ∧ Below W.heap.size W w') ∧
          Hid (R ++ T = ⟨(Lib.decDigits n).toArray⟩) ∧ ∀ W, (Op.stringOp .add R T).run Tryd.prog W = .ok (.string (R ++ T)) W := by
        refine ⟨_, ⟨(Lib.decDigits (n / 10)).toArray⟩, hc0, Lib.hid fun W => ?_, Lib.hid ?_, fun W => run_string_add_sum W _ _ ?_⟩
        · have := ih (n / 10) (by omega) (by omega) W
          rwa [Int.natCast_ediv] at this
        · have : Lib.decDigits n = Lib.decDigits (n / 10) ++ [UInt8.ofNat (48 + n % 10)] := by conv => lhs; rw [Lib.decDigits, dif_neg h10]
          rw [this]
          apply ByteArray.ext
          rw [ByteArray.data_append]
          exact List.append_toArray _ _
        · have hl := dec_len (u := n / 10) (by omega)
          rw [sizeOf_arr, sizeOf_arr]; simp; omega
      clear ih hc0
      have h10' : ¬ (n : Int) < 10 := by omega
      go_enter Tryd.func27, Tryd.ntmps27
      go_wp2_with fail
      refine (IH.out _).mono ?_
      rintro e w5 ⟨rfl, b5⟩
      go_wp2
      all_goals go_ret
      all_goals exact ⟨by rw [← hD.out]; rfl, below_then (by first | exact below_new (Below.refl _ _) _ | exact (below_new (Below.refl _ _) _).drew) b5⟩

theorem quo_app (a b : List UInt8) : quo (a ++ b) = quo a ++ quo b := by
  induction a with
  | nil => rfl
  | cons c r ih => rw [List.cons_append, quo, quo, ih]; split <;> rfl

theorem toList_app (a b : ByteArray) : (a ++ b).data.toList = a.data.toList ++ b.data.toList := by
  rw [ByteArray.data_append, Array.toList_append]

theorem quo_take {s : ByteArray} {j : Nat} (hj : j < s.size) {c : Int} (hc : c = (s.data.toList[j]'hj).toNat) :
    quo (s.data.toList.take (j + 1)) = quo (s.data.toList.take j) ++ (if c = 39 then [39, s.data.toList[j]'hj] else [s.data.toList[j]'hj]) := by
  rw [List.take_succ_eq_append_getElem hj, quo_app]
  congr 1
  generalize (s.data.toList[j]'hj) = d at hc
  rw [quo]
  by_cases h : d = 39
  · subst h; rw [if_pos rfl, if_pos (by rw [hc]; rfl)]; rfl
  · rw [if_neg h, if_neg (fun e => h (UInt8.toNat_inj.1 (by rw [show (39 : UInt8).toNat = 39 from rfl]; omega)))]; rfl

theorem one_byte {s : ByteArray} {j : Nat} (hj : j < s.size) : (s.extract j (j + 1)).data.toList = [s.data.toList[j]'hj] := by
  have : (s.extract j (j + 1)).data = s.data.extract j (j + 1) := by simp
  rw [this, Array.toList_extract, List.extract_eq_take_drop]
  rw [show j + 1 - j = 1 by omega]
  rw [List.drop_eq_getElem_cons hj]
  rfl

set_option maxHeartbeats 3200000 in
theorem refShow_any (k n : Int) (s : ByteArray) (w : World) (h0 : -9223372036854775808 ≤ n) (h1 : n ≤ 9223372036854775807) (hs : s.size ≤ 2147483600) :
    Calls Tryd.prog 17 #[.agg #[.int .i64 k, .int .i64 n, .string s]] w fun e w' => e = .returned (.string (showB k n s)) ∧ Below w.heap.size w w' := by
  have B : Below w.heap.size w (w.alloc (valCells k n s)) := below_new (Below.refl _ _) _
  rcases Decidable.em (k = 0) with rfl | hk0
  · go_enter Tryd.func17, Tryd.ntmps17
    go_wp2
    all_goals go_ret
    all_goals exact ⟨rfl, B⟩
  rcases Decidable.em (k = 1) with rfl | hk1
  · rcases Decidable.em (n < 0) with hn | hn
    · obtain ⟨R, hD, RA, hs⟩ : ∃ R : ByteArray, Hid ((⟨#[45]⟩ : ByteArray) ++ R = showB 1 n s) ∧ Hid (∀ W : World, Calls Tryd.prog 27 #[.int .u64 (-n)] W fun e w' => e = .returned (.string R) ∧ Below W.heap.size W w') ∧
          ∀ W, (Op.stringOp .add (⟨#[45]⟩ : ByteArray) R).run Tryd.prog W = .ok (.string ((⟨#[45]⟩ : ByteArray) ++ R)) W := by
        refine ⟨⟨(Lib.decDigits n.natAbs).toArray⟩, Lib.hid ?_, Lib.hid fun W => ?_, fun W => run_string_add_sum W _ _ ?_⟩
        · have : Lib.itoa n = 45 :: Lib.decDigits n.natAbs := by rw [Lib.itoa, if_pos hn]
          apply ByteArray.ext
          rw [ByteArray.data_append]
          simp [showB, showZ, this]
        · have := digits_any n.natAbs (by omega) W
          rwa [show (n.natAbs : Int) = -n by omega] at this
        · have hl := dec_len (u := n.natAbs) (by omega)
          rw [sizeOf_arr, sizeOf_arr]
          show 1 + _ ≤ _
          omega
      have e1 : IntKind.u64.wrap n = n + 18446744073709551616 := by simp [IntKind.wrap, IntKind.signed, IntKind.bits]; omega
      have e2 : IntKind.u64.wrap (-(n + 18446744073709551616)) = -n := by simp [IntKind.wrap, IntKind.signed, IntKind.bits]; omega
      have e3 : IntKind.u64.wrap (0 - (n + 18446744073709551616)) = -n := by simp [IntKind.wrap, IntKind.signed, IntKind.bits]; omega
      go_enter Tryd.func17, Tryd.ntmps17
      go_wp2_with fail
      refine (RA.out _).mono ?_
      rintro e w5 ⟨rfl, b5⟩
      go_wp2
      all_goals go_ret
      all_goals exact ⟨by rw [← hD.out]; rfl, below_then B b5⟩
    · obtain ⟨R, hD, RA⟩ : ∃ R : ByteArray, Hid (R = showB 1 n s) ∧ Hid (∀ W : World, Calls Tryd.prog 27 #[.int .u64 n] W fun e w' => e = .returned (.string R) ∧ Below W.heap.size W w') := by
        refine ⟨⟨(Lib.decDigits n.toNat).toArray⟩, Lib.hid ?_, Lib.hid fun W => ?_⟩
        · have : Lib.itoa n = Lib.decDigits n.toNat := by rw [Lib.itoa, if_neg hn]
          simp [showB, showZ, this]
        · have := digits_any n.toNat (by omega) W
          rwa [show (n.toNat : Int) = n by omega] at this
      have e1 : IntKind.u64.wrap n = n := by simp [IntKind.wrap, IntKind.signed, IntKind.bits]; omega
      go_enter Tryd.func17, Tryd.ntmps17
      go_wp2_with fail
      refine (RA.out _).mono ?_
      rintro e w5 ⟨rfl, b5⟩
      go_wp2
      all_goals go_ret
      all_goals exact ⟨by rw [← hD.out]; rfl, below_then B b5⟩
  rcases Decidable.em (k = 2) with rfl | hk2
  · have ix : ∀ (j : Nat) (hj : j < s.size) (W : World), (Instr.index 9 (.string s) (.int .i64 j)).run Tryd.prog W = .ok (.int .u8 ((s.data.toList[j]'hj).toNat : Int)) W := fun j hj W => by
      rw [run_index_string _ _ _ _ _ Tryd.underlying9, dif_pos ⟨by omega, by omega⟩]
      rfl
    have sl : ∀ (j : Nat) (hj : j < s.size) (W : World), (Instr.slice 9 (.string s) (some (.int .i64 j)) (some (.int .i64 ((j : Int) + 1))) none).run Tryd.prog W = .ok (.string (s.extract j (j + 1))) W := fun j hj W => by
      rw [run_slice_string _ _ _ _ _ _ _ Tryd.underlying9 (by omega) (by omega) (by omega)]
      rfl
    have IX := Lib.hid ix; have SL := Lib.hid sl; clear ix sl
    go_enter Tryd.func17, Tryd.ntmps17
    go_wp2
    go_loop [3, 4] (fun a i => ∃ (j : Nat) (R : ByteArray), j ≤ s.size ∧ i = .int .i64 j ∧ a = .string R ∧ R.size ≤ 1 + 2 * j ∧ Hid (R.data.toList = 39 :: quo (s.data.toList.take j))) (fun _ i => s.size - (intOf i).toNat)
    case atStart => exact ⟨0, ⟨#[39]⟩, by omega, rfl, rfl, by decide, by simp [Hid, quo]⟩
    case round =>
      obtain ⟨j, R, hj, rfl, rfl, hR, hD⟩ := hrel
      by_cases hlt : j < s.size
      · obtain ⟨c, T, hix, hsl, hT1, hc0, hc1, hq⟩ : ∃ (c : Int) (T : ByteArray), (∀ W : World, (Instr.index 9 (.string s) (.int .i64 j)).run Tryd.prog W = .ok (.int .u8 c) W) ∧
            (∀ W : World, (Instr.slice 9 (.string s) (some (.int .i64 j)) (some (.int .i64 ((j : Int) + 1))) none).run Tryd.prog W = .ok (.string T) W) ∧ T.size = 1 ∧ 0 ≤ c ∧ c ≤ 255 ∧
            Hid (quo (s.data.toList.take (j + 1)) = quo (s.data.toList.take j) ++ (if c = 39 then 39 :: T.data.toList else T.data.toList)) := by
          have ho := one_byte hlt
          refine ⟨_, _, IX.out j hlt, SL.out j hlt, ?_, by omega, ?_, Lib.hid ?_⟩
          · show (s.extract j (j + 1)).data.toList.length = 1
            rw [ho]; rfl
          · have := (s.data.toList[j]'hlt).toNat_lt; omega
          · rw [ho]; exact quo_take hlt rfl
        clear IX SL
        have hjn : (j : Int) < s.size := by omega
        have a1 : ∀ W, (Op.stringOp .add R (⟨#[39]⟩ : ByteArray)).run Tryd.prog W = .ok (.string (R ++ (⟨#[39]⟩ : ByteArray))) W := fun W => run_string_add_sum W _ _ (by have : ByteArray.size ⟨#[39]⟩ = 1 := rfl; omega)
        have a2 : ∀ W, (Op.stringOp .add (R ++ (⟨#[39]⟩ : ByteArray)) T).run Tryd.prog W = .ok (.string (R ++ (⟨#[39]⟩ : ByteArray) ++ T)) W := fun W => run_string_add_sum W _ _ (by have : ByteArray.size ⟨#[39]⟩ = 1 := rfl; rw [ByteArray.size_append]; omega)
        have a3 : ∀ W, (Op.stringOp .add R T).run Tryd.prog W = .ok (.string (R ++ T)) W := fun W => run_string_add_sum W _ _ (by omega)
        by_cases h39 : c = 39
        · subst h39
          have hT := Lib.hid hT1; clear hT1
          go_wp2
          refine ⟨⟨j + 1, R ++ (⟨#[39]⟩ : ByteArray) ++ T, by omega, by simp, rfl, ?_, ?_⟩, by simp [intOf]; omega⟩
          · rw [ByteArray.size_append, ByteArray.size_append, hT.out, show ByteArray.size ⟨#[39]⟩ = 1 from rfl]; omega
          · show _ = _
            rw [toList_app, toList_app, hD.out, hq.out, if_pos rfl]
            simp
        · have hT := Lib.hid hT1; clear hT1
          go_wp2
          refine ⟨⟨j + 1, R ++ T, by omega, by simp, rfl, ?_, ?_⟩, by simp [intOf]; omega⟩
          · rw [ByteArray.size_append, hT.out]; omega
          · show _ = _
            rw [toList_app, hD.out, hq.out, if_neg h39]
            simp
      · have hjn : ¬ (j : Int) < s.size := by omega
        have hj2 : j = s.size := by omega
        have hF : Hid (R ++ (⟨#[39]⟩ : ByteArray) = showB 2 n s) := by
          show _ = _
          apply ByteArray.ext
          rw [ByteArray.data_append]
          have h := hD.out
          rw [hj2, show s.size = s.data.toList.length from rfl, List.take_length] at h
          apply Array.toList_inj.1
          rw [Array.toList_append, h]
          simp [showB, showZ]
        have a1 : ∀ W, (Op.stringOp .add R (⟨#[39]⟩ : ByteArray)).run Tryd.prog W = .ok (.string (R ++ (⟨#[39]⟩ : ByteArray))) W := fun W => run_string_add_sum W _ _ (by have : ByteArray.size ⟨#[39]⟩ = 1 := rfl; omega)
        clear hj2
        go_wp2
        all_goals go_ret
        all_goals exact ⟨by rw [← hF.out]; rfl, B⟩
  · go_enter Tryd.func17, Tryd.ntmps17
    go_wp2
    all_goals go_ret
    all_goals exact ⟨by simp [showB, showZ, hk0, hk1, hk2], B⟩
end Go.Proofs.YtkicjhphiibifaaDoor
