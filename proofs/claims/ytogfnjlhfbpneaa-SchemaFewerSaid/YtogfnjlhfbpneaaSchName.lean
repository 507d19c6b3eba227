/- Layer 11: Name, the code's and the document's. -/
import Derived.Test.YtogfnjlhfbpneaaSchMem
namespace Go.Proofs.Ytogfnjlhfbpneaa
set_option maxRecDepth 100000
open Go.RowKit

set_option maxHeartbeats 1600000 in
theorem letter_any (b : Int) (w : World) : Calls Try.prog 25 #[.int .u8 b] w fun e w' => e = .returned (.bool (lowB b)) ∧ Below w.heap.size w w' := by
  have hb := Lib.hid (Below.refl w.heap.size w)
  obtain ⟨r, hr⟩ : ∃ r, Hid (lowB b = r) := ⟨_, rfl⟩
  rw [hr.out]
  go_enter Try.func25, Try.ntmps25
  by_cases h1 : 97 ≤ b
  · by_cases h2 : b ≤ 122
    · have h3 : Hid (r = true) := by show _ = _; rw [← hr.out]; simp [lowB, h1, h2]
      go_wp2
      go_ret
      exact ⟨ret_bool h3.out.symm, hb.out⟩
    · have h3 : Hid (r = false) := by show _ = _; rw [← hr.out]; simp [lowB, h1, h2]
      go_wp2
      go_ret
      exact ⟨ret_bool h3.out.symm, hb.out⟩
  · have h3 : Hid (r = false) := by show _ = _; rw [← hr.out]; simp [lowB, h1]
    go_wp2
    go_ret
    exact ⟨ret_bool h3.out.symm, hb.out⟩
set_option maxHeartbeats 1600000 in
theorem digit_any (b : Int) (w : World) : Calls Try.prog 26 #[.int .u8 b] w fun e w' => e = .returned (.bool (digB b)) ∧ Below w.heap.size w w' := by
  have hb := Lib.hid (Below.refl w.heap.size w)
  obtain ⟨r, hr⟩ : ∃ r, Hid (digB b = r) := ⟨_, rfl⟩
  rw [hr.out]
  go_enter Try.func26, Try.ntmps26
  by_cases h1 : 48 ≤ b
  · by_cases h2 : b ≤ 57
    · have h3 : Hid (r = true) := by show _ = _; rw [← hr.out]; simp [digB, h1, h2]
      go_wp2
      go_ret
      exact ⟨ret_bool h3.out.symm, hb.out⟩
    · have h3 : Hid (r = false) := by show _ = _; rw [← hr.out]; simp [digB, h1, h2]
      go_wp2
      go_ret
      exact ⟨ret_bool h3.out.symm, hb.out⟩
  · have h3 : Hid (r = false) := by show _ = _; rw [← hr.out]; simp [digB, h1]
    go_wp2
    go_ret
    exact ⟨ret_bool h3.out.symm, hb.out⟩

theorem sbytes_at {s : ByteArray} {k : Nat} {b : Int} (h : (sbytes s)[k]? = some b) (W : World) : (Instr.index 9 (.string s) (.int .i64 (k : Int))).run Try.prog W = .ok (.int .u8 b) W := by
  have hk : k < s.size := by rw [← sbytes_len]; exact (List.getElem?_eq_some_iff.1 h).1
  have z1 : (0 : Int) ≤ (k : Int) := by omega
  have z2 : (k : Int) < (s.size : Int) := by omega
  rw [run_index_string W _ _ _ _ Try.underlying9, dif_pos ⟨z1, z2⟩]
  obtain ⟨h1, h2⟩ := List.getElem?_eq_some_iff.1 h
  rw [← h2]
  simp [sbytes]
  rfl
theorem sbytes_at0 {s : ByteArray} {b : Int} (h : (sbytes s)[0]? = some b) (W : World) : (Instr.index 9 (.string s) (.int .i64 0)).run Try.prog W = .ok (.int .u8 b) W := sbytes_at h W
theorem sbytes_drop {l : List Int} {k : Nat} {b : Int} (h : l[k]? = some b) (p : Int → Bool) : (l.drop k).all p = (p b && (l.drop (k + 1)).all p) := by
  obtain ⟨h1, h2⟩ := List.getElem?_eq_some_iff.1 h
  rw [List.drop_eq_getElem_cons h1, h2, List.all_cons]
theorem nameZ_small {s : ByteArray} (h : s.size < 1) : nameZ s = false := by
  simp [nameZ, nameL, sbytes_len, show ¬ 1 ≤ s.size by omega]
theorem nameZ_great {s : ByteArray} (h : ¬ s.size ≤ 12) : nameZ s = false := by
  simp [nameZ, nameL, sbytes_len, h]
theorem nameZ_low {s : ByteArray} {b : Int} (h : (sbytes s)[0]? = some b) (hb : lowB b = false) : nameZ s = false := by
  simp [nameZ, nameL, List.getD, h, hb]
theorem nameZ_ok {s : ByteArray} {b : Int} (h1 : 1 ≤ s.size) (h2 : s.size ≤ 12) (h : (sbytes s)[0]? = some b) (hb : lowB b = true) : nameZ s = (sbytes s).all okB := by
  simp [nameZ, nameL, sbytes_len, h1, h2, List.getD, h, hb]

set_option maxHeartbeats 3200000 in
theorem name_any (s : ByteArray) (w : World) : Calls Try.prog 11 #[.string s] w fun e w' => e = .returned (.bool (nameZ s)) ∧ Below w.heap.size w w' := by
  obtain ⟨r, hr⟩ : ∃ r, Hid (nameZ s = r) := ⟨_, rfl⟩
  rw [hr.out]
  have HB0 := Lib.hid (Below.refl w.heap.size w)
  obtain ⟨n, hn⟩ : ∃ n, s.size = n := ⟨_, rfl⟩
  have HN := Lib.hid hn
  go_enter Try.func11, Try.ntmps11
  by_cases h1 : n < 1
  · have h3 : Hid (r = false) := by show _ = _; rw [← hr.out]; exact nameZ_small (by rw [HN.out]; exact h1)
    have h2 : (n : Int) < 1 := by omega
    go_wp2
    go_ret
    exact ⟨ret_bool h3.out.symm, HB0.out⟩
  · by_cases h2 : n ≤ 12
    · obtain ⟨b, hb⟩ : ∃ b, (sbytes s)[0]? = some b := ⟨_, List.getElem?_eq_getElem (by rw [sbytes_len]; omega)⟩
      have IX := fun W => sbytes_at0 hb W
      have z1 : ¬ (n : Int) < 1 := by omega
      have z2 : ¬ (12 : Int) < (n : Int) := by omega
      cases hl : lowB b with
      | false =>
        have h3 : Hid (r = false) := by show _ = _; rw [← hr.out]; exact nameZ_low hb hl
        have C := Lib.hid (letter_any b w)
        rw [hl] at C
        clear hl hb
        go_wp2_with fail
        refine C.out.mono ?_
        rintro e w2 ⟨rfl, b2⟩
        have HB := Lib.hid b2
        clear b2
        go_wp2_with fail
        go_ret
        exact ⟨ret_bool h3.out.symm, HB.out⟩
      | true =>
        have h3 : Hid (r = (sbytes s).all okB) := by show _ = _; rw [← hr.out]; exact nameZ_ok (by omega) (by omega) hb hl
        have C := Lib.hid (letter_any b w)
        rw [hl] at C
        clear hl hb hr
        go_wp2_with fail
        refine C.out.mono ?_
        rintro e w2 ⟨rfl, b2⟩
        have HB := Lib.hid b2
        clear b2 C IX
        go_wp2_with fail
        go_loopw [20] (fun i wr => ∃ k : Nat, k ≤ n ∧ i = .int .i64 k ∧ Hid (r = ((sbytes s).drop k).all okB) ∧ Hid (Below w.heap.size w wr)) (fun i _ => n - (intOf i).toNat)
        case atStart => exact ⟨0, Nat.zero_le _, rfl, by show _ = _; rw [h3.out]; rfl, HB⟩
        case round =>
          clear HB h3
          obtain ⟨k, hk, rfl, h3, HB⟩ := hrel
          by_cases hlt : k < n
          · obtain ⟨b, hb⟩ : ∃ b, (sbytes s)[k]? = some b := ⟨_, List.getElem?_eq_getElem (by rw [sbytes_len]; omega)⟩
            have IX := fun W => sbytes_at hb W
            have h4 : Hid (r = (okB b && ((sbytes s).drop (k + 1)).all okB)) := by show _ = _; rw [h3.out]; exact sbytes_drop hb _
            have y1 : (k : Int) < (n : Int) := by omega
            have C1 := Lib.hid (letter_any b wr)
            clear hb h3
            cases hl : lowB b with
            | true =>
              rw [hl] at C1
              have h5 : Hid (r = ((sbytes s).drop (k + 1)).all okB) := by show _ = _; rw [h4.out]; simp [okB, hl]
              clear hl h4
              go_wp2_with fail
              refine C1.out.mono ?_
              rintro e w3 ⟨rfl, b3⟩
              have HB3 := Lib.hid (below_then HB.out b3)
              clear b3 C1
              go_wp2_with fail
              exact ⟨⟨k + 1, by omega, by go_num, h5, HB3⟩, by simp [intOf]; omega⟩
            | false =>
              rw [hl] at C1
              have h4 : Hid (r = ((digB b || b == 95) && ((sbytes s).drop (k + 1)).all okB)) := by show _ = _; rw [h4.out]; simp [okB, hl]
              clear hl
              go_wp2_with fail
              refine C1.out.mono ?_
              rintro e w3 ⟨rfl, b3⟩
              have HB3 := Lib.hid (below_then HB.out b3)
              have C2 := Lib.hid (digit_any b w3)
              clear b3 C1 HB
              cases hd : digB b with
              | true =>
                rw [hd] at C2
                have h5 : Hid (r = ((sbytes s).drop (k + 1)).all okB) := by show _ = _; rw [h4.out]; simp [hd]
                clear hd h4
                go_wp2_with fail
                refine C2.out.mono ?_
                rintro e w4 ⟨rfl, b4⟩
                have HB4 := Lib.hid (below_then HB3.out b4)
                clear b4 C2
                go_wp2_with fail
                exact ⟨⟨k + 1, by omega, by go_num, h5, HB4⟩, by simp [intOf]; omega⟩
              | false =>
                rw [hd] at C2
                go_wp2_with fail
                refine C2.out.mono ?_
                rintro e w4 ⟨rfl, b4⟩
                have HB4 := Lib.hid (below_then HB3.out b4)
                clear b4 C2
                by_cases h95 : b = 95
                · subst h95
                  have h5 : Hid (r = ((sbytes s).drop (k + 1)).all okB) := by show _ = _; rw [h4.out]; simp
                  clear hd h4
                  go_wp2_with fail
                  exact ⟨⟨k + 1, by omega, by go_num, h5, HB4⟩, by simp [intOf]; omega⟩
                · have h5 : Hid (r = false) := by show _ = _; rw [h4.out]; simp [hd, h95]
                  have e9 : (b == 95) = false := by simpa using h95
                  clear hd h4
                  go_wp2_with fail
                  go_ret
                  exact ⟨ret_bool h5.out.symm, HB4.out⟩
          · have h5 : Hid (r = true) := by show _ = _; rw [h3.out, List.drop_of_length_le (by rw [sbytes_len]; omega)]; rfl
            have y1 : ¬ (k : Int) < (n : Int) := by omega
            go_wp2_with fail
            go_ret
            exact ⟨ret_bool h5.out.symm, HB.out⟩
    · have h3 : Hid (r = false) := by show _ = _; rw [← hr.out]; exact nameZ_great (by rw [HN.out]; exact h2)
      have z1 : ¬ (n : Int) < 1 := by omega
      have z2 : (12 : Int) < (n : Int) := by omega
      go_wp2
      go_ret
      exact ⟨ret_bool h3.out.symm, HB0.out⟩
end Go.Proofs.Ytogfnjlhfbpneaa
