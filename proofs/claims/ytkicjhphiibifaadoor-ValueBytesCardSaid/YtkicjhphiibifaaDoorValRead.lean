/- Layer 2: what is read of a text: the code. -/
import Derived.Test.YtkicjhphiibifaaDoorRows
import Derived.Test.YtkicjhphiibifaaDoorMem
import Derived.Test.YtkicjhphiibifaaDoorValMath
import Derived.Test.YtkicjhphiibifaaDoorValPlain
import Derived.Test.YtkicjhphiibifaaDoorValShow
import Derived.Test.YtkicjhphiibifaaDoorStruct
import Derived.BigQuiet
import Derived.Deep.RegionWith
import Derived.Outline
import Derived.Deep.DeepCutAuto
import Derived.Deep.CutBlock
namespace Go.Proofs.YtkicjhphiibifaaDoor
set_option maxRecDepth 100000
open Go.RowKit

theorem ba_ext {s t : ByteArray} (h : s.data.toList = t.data.toList) : s = t := ByteArray.ext (Array.toList_inj.1 h)

/-- the text that is guessed -/
def guessB (s : ByteArray) : ByteArray := ⟨(guessS s.data.toList).toArray⟩

set_option maxHeartbeats 1600000 in
theorem guess_any (s : ByteArray) (w : World) (hs : s.size ≤ 2147483600) (v : Vars w) :
    Calls Tryd.prog 28 #[.string s] w fun e w' => e = .returned (.agg #[.int .i64 (guessK s.data.toList), .int .i64 (guessN s.data.toList), .string (guessB s)]) ∧ Below w.heap.size w w' := by
  have V := Lib.hid (v.below (below_new (Below.refl w.heap.size _) (.cells #[.int .i64 0, .int .i64 0, .string ⟨#[]⟩] 23))); clear v
  have B := below_new (Below.refl w.heap.size _) (.cells #[.int .i64 0, .int .i64 0, .string ⟨#[]⟩] 23)
  rcases Decidable.em (s = ⟨#[110, 117, 108, 108]⟩) with rfl | hn
  · go_enter Tryd.func28, Tryd.ntmps28
    go_wp2
    refine bodyPost_ret (v := .agg #[.int .i64 0, .int .i64 0, .string ⟨#[]⟩]) (results_cell_row rfl _ _ w.heap.size 23 _ (0, 0) _ rfl (heap_alloc_new _ _) Tryd.underlying23 rfl (by kernel_rfl)) rfl ⟨?_, B⟩
    simp [guessK, guessN, guessB, guessS]
  · have hn2 : ¬ s.data.toList = [110, 117, 108, 108] := fun h => hn (ba_ext h)
    have hq : (s.toList == [110, 117, 108, 108]) = false := by rw [Lib.toList_data]; simpa using hn2
    obtain ⟨P, T, hP, CP⟩ : ∃ (P : Bool) (T : ByteArray), Hid (Lib.hasPrefix s.data.toList [39] = P ∧ T.data.toList = Lib.trimPrefix s.data.toList [39] ∧ T.size ≤ s.size) ∧ Hid (∀ W : World,
        Calls Tryd.prog 42 #[.string s, .string ⟨#[39]⟩] W fun e w' => e = .returned (.tuple #[.string T, .bool P]) ∧ Below W.heap.size W w') := by
      refine ⟨_, _, Lib.hid ⟨rfl, rfl, ?_⟩, Lib.hid fun W => cutPrefix_any s ⟨#[39]⟩ W⟩
      show (Lib.trimPrefix s.data.toList [39]).length ≤ s.data.toList.length
      rw [Lib.trimPrefix]; split <;> simp
    cases P with
    | true =>
      obtain ⟨U, hU, CU⟩ : ∃ U : ByteArray, Hid (U.data.toList = Lib.trimSuffix T.data.toList [39] ∧ U.size ≤ T.size) ∧ Hid (∀ W : World,
          Calls Tryd.prog 43 #[.string T, .string ⟨#[39]⟩] W fun e w' => e = .returned (.string U) ∧ Below W.heap.size W w') := by
        refine ⟨_, Lib.hid ⟨rfl, ?_⟩, Lib.hid fun W => trimSuffix_any T ⟨#[39]⟩ W (by have := hP.out.2.2; omega)⟩
        show (Lib.trimSuffix T.data.toList [39]).length ≤ T.data.toList.length
        rw [Lib.trimSuffix]; split
        · rw [List.length_take]; omega
        · exact Nat.le_refl _
      obtain ⟨X, hX, CX⟩ : ∃ X : ByteArray, Hid (X = guessB s) ∧ Hid (∀ W : World, Vars W →
          Calls Tryd.prog 41 #[.string U, .string ⟨#[39, 39]⟩, .string ⟨#[39]⟩] W fun e w' => e = .returned (.string X) ∧ Below W.heap.size W w') := by
        refine ⟨_, Lib.hid ?_, Lib.hid fun W v => replace_any U ⟨#[39, 39]⟩ ⟨#[39]⟩ W (by have := hP.out.2.2; have := hU.out.2; omega) (by decide) (by decide) v⟩
        unfold guessB guessS
        rw [if_neg hn2, if_pos hP.out.1, ← hP.out.2.1, ← hU.out.1]
      have hK : Hid (guessK s.data.toList = 2 ∧ guessN s.data.toList = 0) := by
        show _ ∧ _
        rw [guessK, guessN, if_neg hn2, if_pos hP.out.1, if_neg hn2, if_pos hP.out.1]; exact ⟨rfl, rfl⟩
      go_enter Tryd.func28, Tryd.ntmps28
      go_wp2_with fail
      refine (CP.out _).mono ?_
      rintro e w1 ⟨rfl, b1⟩
      go_wp2_with fail
      refine (CU.out _).mono ?_
      rintro e w2 ⟨rfl, b2⟩
      have b2 := below_then b1 b2
      go_wp2_with fail
      refine (CX.out _ (V.out.below b2)).mono ?_
      rintro e w3 ⟨rfl, b3⟩
      have b3 := below_then b2 b3
      have hr := row_below (heap_alloc_new w _) b3
      have c0 := cell_row hr 0; have c1 := cell_row hr 1; have c2 := cell_row hr 2
      have f0 := frozen_row hr 0; have f1 := frozen_row hr 1; have f2 := frozen_row hr 2
      have HR := Lib.hid hr; clear hr b1 b2
      go_wp2
      refine bodyPost_ret (v := .agg #[.int .i64 2, .int .i64 0, .string X]) (results_cell_row rfl _ _ w.heap.size 23 _ (0, 0) _ rfl (set3 HR.out) Tryd.underlying23 rfl (by kernel_rfl)) rfl ⟨?_, ?_⟩
      · rw [hK.out.1, hK.out.2, hX.out]
      · exact below_set3 (below_then B b3) (Nat.le_refl _)
    | false =>
      obtain ⟨n, hK, CA⟩ : ∃ n : Int, Hid (guessK s.data.toList = 1 ∧ guessN s.data.toList = n ∧ guessB s = ⟨#[]⟩) ∧ Hid (∀ W : World, Vars W →
          Calls Tryd.prog 44 #[.string s] W fun e w' => ∃ r, e = .returned (.tuple #[.int .i64 n, r]) ∧ Below W.heap.size W w') := by
        refine ⟨_, Lib.hid ⟨?_, ?_, ?_⟩, Lib.hid fun W v => atoi_any s W (by omega) v⟩
        · rw [guessK, if_neg hn2, hP.out.1]; rfl
        · rw [guessN, if_neg hn2, hP.out.1]; rfl
        · rw [guessB, guessS, if_neg hn2, hP.out.1]; rfl
      go_enter Tryd.func28, Tryd.ntmps28
      go_wp2_with fail
      refine (CP.out _).mono ?_
      rintro e w1 ⟨rfl, b1⟩
      go_wp2_with fail
      refine (CA.out _ (V.out.below b1)).mono ?_
      rintro e w3 ⟨r, rfl, b3⟩
      have b3 := below_then b1 b3
      have hr := row_below (heap_alloc_new w _) b3
      have c0 := cell_row hr 0; have c1 := cell_row hr 1; have c2 := cell_row hr 2
      have f0 := frozen_row hr 0; have f1 := frozen_row hr 1; have f2 := frozen_row hr 2
      have HR := Lib.hid hr; clear hr b1
      go_wp2
      refine bodyPost_ret (v := .agg #[.int .i64 1, .int .i64 n, .string ⟨#[]⟩]) (results_cell_row rfl _ _ w.heap.size 23 _ (0, 0) _ rfl (set3 HR.out) Tryd.underlying23 rfl (by kernel_rfl)) rfl ⟨?_, ?_⟩
      · rw [hK.out.1, hK.out.2.1, hK.out.2.2]
      · exact below_set3 (below_then B b3) (Nat.le_refl _)
end Go.Proofs.YtkicjhphiibifaaDoor
