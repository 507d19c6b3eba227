/- Layer 2: what is read of a text: the code, whole. -/
import Derived.Test.YtkicjhphiibifaaDoorValRead
namespace Go.Proofs.YtkicjhphiibifaaDoor
set_option maxRecDepth 100000
open Go.RowKit

theorem parse_lt : ∀ (l : List UInt8) (z : Int), Lib.atoiAll l = .ok z → -9223372036854775808 ≤ z ∧ z ≤ 9223372036854775807 := by
  intro l z h
  cases l with
  | nil => cases h
  | cons c r =>
    simp only [Lib.atoiAll] at h
    split at h
    · cases h
    · cases h
    · rename_i u hu
      split at h
      · cases h
      · split at h
        · cases h
        · injection h with h
          subst h
          split <;> omega

theorem atoiN_rng (l : List UInt8) : -9223372036854775808 ≤ atoiN l ∧ atoiN l ≤ 9223372036854775807 := by
  unfold atoiN
  cases h : Lib.atoiAll l with
  | ok z => exact parse_lt l z h
  | range => simp only []; rw [Lib.atoiSat]; split <;> exact ⟨by decide, by decide⟩
  | _ => exact ⟨show (-9223372036854775808 : Int) ≤ 0 by omega, show (0 : Int) ≤ 9223372036854775807 by omega⟩

theorem guessN_rng (l : List UInt8) : -9223372036854775808 ≤ guessN l ∧ guessN l ≤ 9223372036854775807 := by
  unfold guessN
  split
  · exact ⟨by decide, by decide⟩
  · split
    · exact ⟨by decide, by decide⟩
    · exact atoiN_rng l

theorem guessS_len (l : List UInt8) : (guessS l).length ≤ l.length := by
  unfold guessS
  split
  · simp
  · split
    · rw [Lib.replaceAll, Lib.replace]
      split
      · rw [Lib.trimSuffix, Lib.trimPrefix]; split <;> split <;> simp <;> omega
      · refine Nat.le_trans (replaceK_len _ _) ?_
        rw [Lib.trimSuffix, Lib.trimPrefix]; split <;> split <;> simp <;> omega
    · simp

/-- the text that is read -/
def readB (s : ByteArray) : ByteArray := ⟨(readS s.data.toList).toArray⟩

theorem read_false {s : ByteArray} (h : readOk s.data.toList = false) : readK s.data.toList = 0 ∧ readN s.data.toList = 0 ∧ readB s = ⟨#[]⟩ ∧ readE s.data.toList = 3 := by
  simp [readB, readK, readN, readS, readE, h]
theorem read_true {s : ByteArray} (h : readOk s.data.toList = true) : readK s.data.toList = guessK s.data.toList ∧ readN s.data.toList = guessN s.data.toList ∧ readB s = guessB s ∧ readE s.data.toList = 0 := by
  simp [readB, readK, readN, readS, readE, guessB, h]

set_option maxHeartbeats 1600000 in
theorem read_any (s : ByteArray) (w : World) (hs : s.size ≤ 1000000000) (v : Vars w) :
    Calls Tryd.prog 18 #[.string s] w fun e w' => e = .returned (.tuple #[.agg #[.int .i64 (readK s.data.toList), .int .i64 (readN s.data.toList), .string (readB s)], .int .i64 (readE s.data.toList)]) ∧ Below w.heap.size w w' := by
  have B := below_new (Below.refl w.heap.size _) (.cells #[.int .i64 0, .int .i64 0, .string ⟨#[]⟩] 23)
  have V := Lib.hid (v.below B); clear v
  obtain ⟨k, n, S, r, T, hn, hS, hall, CG, CR, CS⟩ : ∃ (k n : Int) (S : ByteArray) (r : Bool) (T : ByteArray), Hid (-9223372036854775808 ≤ n ∧ n ≤ 9223372036854775807) ∧ Hid (S.size ≤ s.size) ∧
      Hid (guessK s.data.toList = k ∧ guessN s.data.toList = n ∧ guessB s = S ∧ rightZ k n S.size = r ∧ showB k n S = T) ∧
      Hid (∀ W : World, Vars W → Calls Tryd.prog 28 #[.string s] W fun e w' => e = .returned (.agg #[.int .i64 k, .int .i64 n, .string S]) ∧ Below W.heap.size W w') ∧
      Hid (∀ W : World, Calls Tryd.prog 10 #[.agg #[.int .i64 k, .int .i64 n, .string S]] W fun e w' => e = .returned (.bool r) ∧ Below W.heap.size W w') ∧
      Hid (∀ W : World, Vars W → Calls Tryd.prog 16 #[.agg #[.int .i64 k, .int .i64 n, .string S]] W fun e w' => e = .returned (.string T) ∧ Below W.heap.size W w') := by
    have hl : (guessB s).size ≤ s.size := guessS_len s.data.toList
    have hr := guessN_rng s.data.toList
    exact ⟨_, _, _, _, _, Lib.hid hr, Lib.hid hl, Lib.hid ⟨rfl, rfl, rfl, rfl, rfl⟩, Lib.hid fun W v => guess_any s W (by omega) v, Lib.hid fun W => right_any _ _ _ W (by omega),
      Lib.hid fun W v => show_any _ _ _ W hr.1 hr.2 (by omega) v⟩
  have hB : Hid ((⟨(guessS s.data.toList).toArray⟩ : ByteArray) = S) := Lib.hid hall.out.2.2.1
  go_enter Tryd.func18, Tryd.ntmps18
  go_wp2_with fail
  refine (CG.out _ V.out).mono ?_
  rintro e w1 ⟨rfl, b1⟩
  have hr1 := row_below (heap_alloc_new w _) b1
  have V1 := Lib.hid (V.out.below b1)
  have B1 := below_then B b1
  have hr2 := row_below hr1 (below_new (Below.refl w1.heap.size w1) (.cells #[.int .i64 k, .int .i64 n, .string S] 23))
  have hv2 := heap_alloc_new w1 (.cells #[.int .i64 k, .int .i64 n, .string S] 23)
  have V2 := Lib.hid (V1.out.below (below_new (Below.refl w1.heap.size w1) (.cells #[.int .i64 k, .int .i64 n, .string S] 23)))
  have B2 := below_new B1 (.cells #[.int .i64 k, .int .i64 n, .string S] 23)
  cases r with
  | false =>
    have hF : Hid (readOk s.data.toList = false) := by
      show _ = _
      have h := hall.out
      have h2 : rightZ (guessK s.data.toList) (guessN s.data.toList) (guessS s.data.toList).length = false := by rw [h.1, h.2.1, show (guessS s.data.toList).length = S.size by rw [← h.2.2.1]; rfl]; exact h.2.2.2.1
      rw [readOk, h2]; rfl
    go_wp2_with fail
    refine (CR.out _).mono ?_
    rintro e w3 ⟨rfl, b3⟩
    have hr3 := row_below hr2 b3
    have B3 := below_then B2 b3
    have c0 := cell_row hr3 0; have c1 := cell_row hr3 1; have c2 := cell_row hr3 2
    have f0 := frozen_row hr3 0; have f1 := frozen_row hr3 1; have f2 := frozen_row hr3 2
    have HR := Lib.hid hr3; clear hr3 hr2 hr1 hv2
    go_wp2
    refine bodyPost_ret (v := .tuple #[.agg #[.int .i64 0, .int .i64 0, .string ⟨#[]⟩], .int .i64 3]) (results_row_tmp rfl _ _ w.heap.size 23 _ (0, 0) _ rfl (set3 HR.out) Tryd.underlying23 rfl (by kernel_rfl) rfl) rfl ⟨?_, ?_⟩
    · obtain ⟨a, b, c, d⟩ := read_false hF.out
      rw [a, b, c, d]
    · exact below_set3 B3 (Nat.le_refl _)
  | true =>
    rcases Decidable.em (T = s) with rfl | hT
    · have hF : Hid (readOk T.data.toList = true) := by
        show _ = _
        have h := hall.out
        have h2 : rightZ (guessK T.data.toList) (guessN T.data.toList) (guessS T.data.toList).length = true := by rw [h.1, h.2.1, show (guessS T.data.toList).length = S.size by rw [← h.2.2.1]; rfl]; exact h.2.2.2.1
        have h3 : showZ (guessK T.data.toList) (guessN T.data.toList) (guessS T.data.toList) = T.data.toList := by
          rw [h.1, h.2.1, show guessS T.data.toList = S.data.toList by rw [← h.2.2.1]; rfl]
          exact congrArg (fun x : ByteArray => x.data.toList) h.2.2.2.2
        rw [readOk, h2, h3]; simp
      go_wp2_with fail
      refine (CR.out _).mono ?_
      rintro e w3 ⟨rfl, b3⟩
      have hr3 := row_below hr2 b3
      have hv3 := row_below hv2 b3
      have B3 := below_then B2 b3
      have V3 := Lib.hid (V2.out.below b3)
      have v0 := cell_row hv3 0; have v1 := cell_row hv3 1; have v2 := cell_row hv3 2
      clear hr1 hr2 hv2
      have HR := Lib.hid hr3; have HV := Lib.hid hv3; clear hr3 hv3
      go_wp2_with fail
      refine (CS.out _ V3.out).mono ?_
      rintro e w4 ⟨rfl, b4⟩
      have hr4 := row_below HR.out b4
      have hv4 := row_below HV.out b4
      have B4 := below_then B3 b4
      clear v0 v1 v2
      have v0 := cell_row hv4 0; have v1 := cell_row hv4 1; have v2 := cell_row hv4 2
      have c0 := cell_row hr4 0; have c1 := cell_row hr4 1; have c2 := cell_row hr4 2
      have f0 := frozen_row hr4 0; have f1 := frozen_row hr4 1; have f2 := frozen_row hr4 2
      have HR := Lib.hid hr4; clear hr4 hv4
      go_wp2
      refine bodyPost_ret (v := .tuple #[.agg #[.int .i64 k, .int .i64 n, .string S], .int .i64 0]) (results_row_tmp rfl _ _ w.heap.size 23 _ (0, 0) _ rfl (set3 HR.out) Tryd.underlying23 rfl (by kernel_rfl) rfl) rfl ⟨?_, ?_⟩
      · obtain ⟨a, b, c, d⟩ := read_true hF.out
        rw [a, b, c, d, hall.out.1, hall.out.2.1, hall.out.2.2.1]
      · exact below_set3 B4 (Nat.le_refl _)
    · have hF : Hid (readOk s.data.toList = false) := by
        show _ = _
        have h := hall.out
        have h3 : ¬ showZ (guessK s.data.toList) (guessN s.data.toList) (guessS s.data.toList) = s.data.toList := fun e => hT (by
          rw [h.1, h.2.1, show guessS s.data.toList = S.data.toList by rw [← h.2.2.1]; rfl] at e
          rw [← h.2.2.2.2]
          exact ba_ext e)
        rw [readOk]; simp [h3]
      have hs2 : ¬ T.data = s.data := fun h => hT (ByteArray.ext h)
      have hs3 : ¬ T.toList = s.toList := fun h => hT (by rw [Lib.toList_data, Lib.toList_data] at h; exact ba_ext h)
      have hs4 : (T.toList == s.toList) = false := by simpa using hs3
      go_wp2_with fail
      refine (CR.out _).mono ?_
      rintro e w3 ⟨rfl, b3⟩
      have hr3 := row_below hr2 b3
      have hv3 := row_below hv2 b3
      have B3 := below_then B2 b3
      have V3 := Lib.hid (V2.out.below b3)
      have v0 := cell_row hv3 0; have v1 := cell_row hv3 1; have v2 := cell_row hv3 2
      clear hr1 hr2 hv2
      have HR := Lib.hid hr3; have HV := Lib.hid hv3; clear hr3 hv3
      go_wp2_with fail
      refine (CS.out _ V3.out).mono ?_
      rintro e w4 ⟨rfl, b4⟩
      have hr4 := row_below HR.out b4
      have B4 := below_then B3 b4
      clear v0 v1 v2
      have c0 := cell_row hr4 0; have c1 := cell_row hr4 1; have c2 := cell_row hr4 2
      have f0 := frozen_row hr4 0; have f1 := frozen_row hr4 1; have f2 := frozen_row hr4 2
      have HR := Lib.hid hr4; clear hr4
      go_wp2
      refine bodyPost_ret (v := .tuple #[.agg #[.int .i64 0, .int .i64 0, .string ⟨#[]⟩], .int .i64 3]) (results_row_tmp rfl _ _ w.heap.size 23 _ (0, 0) _ rfl (set3 HR.out) Tryd.underlying23 rfl (by kernel_rfl) rfl) rfl ⟨?_, ?_⟩
      · obtain ⟨a, b, c, d⟩ := read_false hF.out
        rw [a, b, c, d]
      · exact below_set3 B4 (Nat.le_refl _)
end Go.Proofs.YtkicjhphiibifaaDoor
