/- Several texts laid together: SchRefN, SchFew, SchHelp, SchAmiss, SchUniq. -/
import Derived.Test.YtfljhnalmiibeaaGreatMbSchMem
import Derived.Deep.QuietTactic
import Derived.Deep.RegionHeld3
namespace Go.Proofs.YtfljhnalmiibeaaGreat
set_option maxRecDepth 100000
open Go.RowKit
set_option maxHeartbeats 3200000 in
theorem refName_any (s : ByteArray) (w : World) : Calls Tryz.prog 98 #[.string s] w fun e w' => e = .returned (.bool (nameZ s)) ∧ Below w.heap.size w w' := by
  obtain ⟨r, hr⟩ : ∃ r, Hid (nameZ s = r) := ⟨_, rfl⟩
  rw [hr.out]
  have HB0 := Lib.hid (Below.refl w.heap.size w)
  obtain ⟨n, hn⟩ : ∃ n, s.size = n := ⟨_, rfl⟩
  have HN := Lib.hid hn
  go_enter Tryz.func98, Tryz.ntmps98
  by_cases h1 : n < 1
  · have h3 : Hid (r = false) := by show _ = _; rw [← hr.out]; exact nameZ_small (by rw [HN.out]; exact h1)
    have h2 : (n : Int) < 1 := by omega
    go_wp2
    go_ret
    exact ⟨ret_bool h3.out.symm, HB0.out⟩
  · by_cases h2 : n ≤ 12
    · obtain ⟨b, hb⟩ : ∃ b, (sbytes s)[0]? = some b := ⟨_, List.getElem?_eq_getElem (by rw [sbytes_len]; omega)⟩
      have IX := fun W => sbytes_at0 hb W
      have z1 : ¬ (n : Int) < 1 := by omega
      have z2 : ¬ (12 : Int) < (n : Int) := by omega
      by_cases l1 : b < 97
      · have h3 : Hid (r = false) := by show _ = _; rw [← hr.out]; exact nameZ_low hb (by simp [lowB]; omega)
        clear hb
        go_wp2_with fail
        go_ret
        exact ⟨ret_bool h3.out.symm, HB0.out⟩
      · by_cases l2 : 122 < b
        · have h3 : Hid (r = false) := by show _ = _; rw [← hr.out]; exact nameZ_low hb (by simp [lowB]; omega)
          clear hb
          go_wp2_with fail
          go_ret
          exact ⟨ret_bool h3.out.symm, HB0.out⟩
        · have h3 : Hid (r = (sbytes s).all okB11) := by show _ = _; rw [← hr.out]; exact nameZ_ok (by omega) (by omega) hb (by simp [lowB]; omega)
          clear hb hr
          go_wp2_with fail
          clear IX l1 l2
          go_loopw [3] (fun i wr => ∃ k : Nat, k ≤ n ∧ i = .int .i64 k ∧ Hid (r = ((sbytes s).drop k).all okB11) ∧ Hid (Below w.heap.size w wr)) (fun i _ => n - (intOf i).toNat)
          case atStart => exact ⟨0, Nat.zero_le _, rfl, by show _ = _; rw [h3.out]; rfl, HB0⟩
          case round =>
            clear HB0 h3
            obtain ⟨k, hk, rfl, h3, HB⟩ := hrel
            by_cases hlt : k < n
            · obtain ⟨b, hb⟩ : ∃ b, (sbytes s)[k]? = some b := ⟨_, List.getElem?_eq_getElem (by rw [sbytes_len]; omega)⟩
              have IX := fun W => sbytes_at hb W
              have h4 : Hid (r = (okB11 b && ((sbytes s).drop (k + 1)).all okB11)) := by show _ = _; rw [h3.out]; exact sbytes_drop hb _
              have y1 : (k : Int) < (n : Int) := by omega
              clear hb h3
              by_cases l1 : 97 ≤ b
              · have l3 : 48 ≤ b := by omega
                have l4 : ¬ b ≤ 57 := by omega
                by_cases l2 : b ≤ 122
                · have h5 : Hid (r = ((sbytes s).drop (k + 1)).all okB11) := by show _ = _; rw [h4.out]; simp [okB11, lowB, l1, l2]
                  go_wp2_with fail
                  exact ⟨⟨k + 1, by omega, by go_num, h5, HB⟩, by simp [intOf]; omega⟩
                · have e9 : (b == 95) = false := by simp; omega
                  have h5 : Hid (r = false) := by show _ = _; rw [h4.out]; simp [okB11, lowB, digB, l2, l4]; omega
                  go_wp2_with fail
                  go_ret
                  exact ⟨ret_bool h5.out.symm, HB.out⟩
              · by_cases l3 : 48 ≤ b
                · by_cases l4 : b ≤ 57
                  · have h5 : Hid (r = ((sbytes s).drop (k + 1)).all okB11) := by show _ = _; rw [h4.out]; simp [okB11, digB, l3, l4]
                    go_wp2_with fail
                    exact ⟨⟨k + 1, by omega, by go_num, h5, HB⟩, by simp [intOf]; omega⟩
                  · by_cases l5 : b = 95
                    · subst l5
                      have h5 : Hid (r = ((sbytes s).drop (k + 1)).all okB11) := by show _ = _; rw [h4.out]; simp [okB11]
                      go_wp2_with fail
                      exact ⟨⟨k + 1, by omega, by go_num, h5, HB⟩, by simp [intOf]; omega⟩
                    · have e9 : (b == 95) = false := by simpa using l5
                      have h5 : Hid (r = false) := by show _ = _; rw [h4.out]; simp [okB11, lowB, digB, l1, l4, l5]
                      go_wp2_with fail
                      go_ret
                      exact ⟨ret_bool h5.out.symm, HB.out⟩
                · have e9 : (b == 95) = false := by simp; omega
                  have l5 : ¬ b = 95 := by omega
                  have h5 : Hid (r = false) := by show _ = _; rw [h4.out]; simp [okB11, lowB, digB, l1, l3, l5]
                  go_wp2_with fail
                  go_ret
                  exact ⟨ret_bool h5.out.symm, HB.out⟩
            · have h5 : Hid (r = true) := by show _ = _; rw [h3.out, List.drop_of_length_le (by rw [sbytes_len]; omega)]; rfl
              have y1 : ¬ (k : Int) < (n : Int) := by omega
              go_wp2_with fail
              go_ret
              exact ⟨ret_bool h5.out.symm, HB.out⟩
    · have h3 : Hid (r = false) := by show _ = _; rw [← hr.out]; exact nameZ_great (by rw [HN.out]; exact h2)
      have z1 : ¬ (n : Int) < 1 := by omega
      have z2 : (12 : Int) < (n : Int) := by omega
      go_wp2
      go_ret
      exact ⟨ret_bool h3.out.symm, HB0.out⟩
end Go.Proofs.YtfljhnalmiibeaaGreat

namespace Go.Proofs.YtfljhnalmiibeaaGreat
set_option maxRecDepth 100000
open Go.RowKit
/-- a table of a size that there is memory for -/
def T6.Small (t : T6) : Prop := sizeT t ≤ 1000000000000000
end Go.Proofs.YtfljhnalmiibeaaGreat

namespace Go.Proofs.YtfljhnalmiibeaaGreat
set_option maxRecDepth 100000
open Go.RowKit
theorem beq_no {a b : Int} (h : ¬ a = b) : (a == b) = false := by simpa using h
theorem beq_yes {a b : Int} (h : a = b) : (a == b) = true := by simpa using h
set_option maxHeartbeats 1600000 in
theorem knownKind_any (k : Int) (w : World) : Calls Tryz.prog 120 #[.int .i64 k] w fun e w' => e = .returned (.bool (kindB k)) ∧ Below w.heap.size w w' := by
  have hb := Lib.hid (Below.refl w.heap.size w)
  obtain ⟨r, hr⟩ : ∃ r, Hid (kindB k = r) := ⟨_, rfl⟩
  rw [hr.out]
  go_enter Tryz.func120, Tryz.ntmps120
  rcases Decidable.em (k = 0) with rfl | h0
  · have h3 : Hid (r = true) := hr.out.symm
    go_wp2
    go_ret
    exact ⟨ret_bool h3.out.symm, hb.out⟩
  rcases Decidable.em (k = 1) with rfl | h1
  · have h3 : Hid (r = true) := hr.out.symm
    go_wp2
    go_ret
    exact ⟨ret_bool h3.out.symm, hb.out⟩
  rcases Decidable.em (k = 2) with rfl | h2
  · have h3 : Hid (r = true) := hr.out.symm
    go_wp2
    go_ret
    exact ⟨ret_bool h3.out.symm, hb.out⟩
  rcases Decidable.em (k = 3) with rfl | h4
  · have h3 : Hid (r = true) := hr.out.symm
    go_wp2
    go_ret
    exact ⟨ret_bool h3.out.symm, hb.out⟩
  rcases Decidable.em (k = 4) with rfl | h5
  · have h3 : Hid (r = true) := hr.out.symm
    go_wp2
    go_ret
    exact ⟨ret_bool h3.out.symm, hb.out⟩
  have h3 : Hid (r = false) := by show _ = _; rw [← hr.out]; simp [kindB]; omega
  have e0 := beq_no h0; have e1 := beq_no h1; have e2 := beq_no h2; have e3 := beq_no h4; have e4 := beq_no h5
  go_wp2
  go_ret
  exact ⟨ret_bool h3.out.symm, hb.out⟩
set_option maxHeartbeats 1600000 in
theorem mayHave_any (k t : Int) (w : World) : Calls Tryz.prog 121 #[.int .i64 k, .int .i64 t] w fun e w' => e = .returned (.bool (mayB k t)) ∧ Below w.heap.size w w' := by
  have hb := Lib.hid (Below.refl w.heap.size w)
  obtain ⟨r, hr⟩ : ∃ r, Hid (mayB k t = r) := ⟨_, rfl⟩
  rw [hr.out]
  go_enter Tryz.func121, Tryz.ntmps121
  rcases Decidable.em (t = 1) with rfl | h1
  · rcases Decidable.em (k = 4) with rfl | h4
    · have h3 : Hid (r = false) := hr.out.symm
      go_wp2
      go_ret
      exact ⟨ret_bool h3.out.symm, hb.out⟩
    · have h3 : Hid (r = true) := by show _ = _; rw [← hr.out]; simp [mayB, h4]
      have e4 := beq_no h4
      go_wp2
      go_ret
      exact ⟨ret_bool (by rw [h3.out]; simp [h4]), hb.out⟩
  rcases Decidable.em (t = 2) with rfl | h2
  · rcases Decidable.em (k = 2) with rfl | h4
    · have h3 : Hid (r = false) := hr.out.symm
      go_wp2
      go_ret
      exact ⟨ret_bool h3.out.symm, hb.out⟩
    rcases Decidable.em (k = 3) with rfl | h5
    · have h3 : Hid (r = false) := hr.out.symm
      go_wp2
      go_ret
      exact ⟨ret_bool h3.out.symm, hb.out⟩
    · have h3 : Hid (r = true) := by show _ = _; rw [← hr.out]; simp [mayB, h4, h5]
      have e4 := beq_no h4; have e5 := beq_no h5
      go_wp2
      go_ret
      exact ⟨ret_bool (by rw [h3.out]; simp [h4, h5]), hb.out⟩
  have h3 : Hid (r = false) := by show _ = _; rw [← hr.out]; simp [mayB, h1, h2]
  have e1 := beq_no h1; have e2 := beq_no h2
  go_wp2
  go_ret
  exact ⟨ret_bool h3.out.symm, hb.out⟩
set_option maxHeartbeats 1600000 in
theorem register_any (c : C4) (w : World) : Calls Tryz.prog 122 #[c.agg] w fun e w' => e = .returned (.bool (regB c)) ∧ Below w.heap.size w w' := by
  have HB := Lib.hid (below_new (Below.refl w.heap.size w) (colBox c))
  obtain ⟨c0, c1, c2, c3⟩ := col_row (heap_alloc_new w (colBox c))
  obtain ⟨q, hq⟩ : ∃ q, (c.k == 0) = q := ⟨_, rfl⟩
  obtain ⟨r, hr⟩ : ∃ r, (c.t == 1) = r := ⟨_, rfl⟩
  have h3 : Hid (regB c = (q && r)) := by show _ = _; rw [regB, hq, hr]
  rw [h3.out]
  go_enter Tryz.func122, Tryz.ntmps122
  cases q with
  | true =>
    rw [Bool.true_and]
    go_wp2
    go_ret
    exact ⟨rfl, HB.out⟩
  | false =>
    rw [Bool.false_and]
    go_wp2
    go_ret
    exact ⟨rfl, HB.out⟩
set_option maxHeartbeats 1600000 in
theorem bindable_any (t : T6) (col : Int) (w : World) : Calls Tryz.prog 123 #[t.agg, .int .i64 col] w fun e w' => e = .returned (.bool (bindB t.nc col)) ∧ Below w.heap.size w w' := by
  have HB := Lib.hid (below_new (Below.refl w.heap.size w) (tabBox t))
  obtain ⟨c0, c1, c2, c3, c4, c5⟩ := tab_row (heap_alloc_new w (tabBox t))
  obtain ⟨r, hr⟩ : ∃ r, Hid (bindB t.nc col = r) := ⟨_, rfl⟩
  rw [hr.out]
  go_enter Tryz.func123, Tryz.ntmps123
  by_cases h1 : 0 < col
  · by_cases h2 : col < (t.nc : Int)
    · have h3 : Hid (r = true) := by show _ = _; rw [← hr.out]; simp [bindB, h1, h2]
      go_wp2
      go_ret
      exact ⟨ret_bool h3.out.symm, HB.out⟩
    · have h3 : Hid (r = false) := by show _ = _; rw [← hr.out]; simp [bindB, h1, h2]
      go_wp2
      go_ret
      exact ⟨ret_bool h3.out.symm, HB.out⟩
  · have h3 : Hid (r = false) := by show _ = _; rw [← hr.out]; simp [bindB, h1]
    go_wp2
    go_ret
    exact ⟨ret_bool h3.out.symm, HB.out⟩
end Go.Proofs.YtfljhnalmiibeaaGreat

namespace Go.Proofs.YtfljhnalmiibeaaGreat
set_option maxRecDepth 100000
open Go.RowKit
theorem hasN_table (l : List T6) (s : ByteArray) : (tableP l s).isSome = hasN T6.nm l s := findP_any _ l
theorem hasN_column (l : List C4) (s : ByteArray) : (columnP l s).isSome = hasN C4.nm l s := findP_any _ l
set_option maxHeartbeats 1600000 in
theorem nameAmiss_any (A : Option Addr) (n c : Nat) (l : List T6) (s : ByteArray) (w : World) (h : RdS11 w A n c l) :
    Calls Tryz.prog 83 #[.slice A n c, .string s] w fun e w' => e = .returned (.int .i64 (nameErr l s)) ∧ Below w.heap.size w w' := by
  have HR := Lib.hid h
  obtain ⟨nz, hnz⟩ : ∃ nz, Hid (nameZ s = nz) := ⟨_, rfl⟩
  obtain ⟨th, hth⟩ : ∃ th, Hid (hasN T6.nm l s = th) := ⟨_, rfl⟩
  have hE : Hid (nameErr l s = if nz = false then 1 else if th = true then 5 else 0) := by show _ = _; rw [nameErr, hnz.out, hth.out]
  obtain ⟨E, hEE⟩ : ∃ E, Hid (nameErr l s = E) := ⟨_, rfl⟩
  rw [hEE.out] at hE ⊢
  have CN := Lib.hid (name_any s w)
  rw [hnz.out] at CN
  obtain ⟨z0, C⟩ : ∃ z0, Hid (∀ W, RdS11 W A n c l → Calls Tryz.prog 118 #[.agg #[.slice A n c], .string s] W fun e w' => e = .returned (.tuple #[.int .i64 z0, .bool th]) ∧ Below W.heap.size W w') :=
    ⟨at0 (tableP l s), fun W hW => by rw [← hth.out, ← hasN_table]; exact table_any A n c l s W hW⟩
  clear h hnz hth hEE
  go_enter Tryz.func83, Tryz.ntmps83
  go_wp2_with fail
  refine CN.out.mono ?_
  rintro e w2 ⟨rfl, b2⟩
  have HB2 := Lib.hid b2
  have HR2 := Lib.hid (HR.out.below b2)
  clear b2 CN HR
  cases nz with
  | false =>
    go_wp2_with fail
    go_ret
    exact ⟨ret_int (by rw [hE.out]; rfl), HB2.out⟩
  | true =>
    go_wp2_with fail
    refine (C.out _ HR2.out).mono ?_
    rintro e w3 ⟨rfl, b3⟩
    have HB3 := Lib.hid (below_then HB2.out b3)
    clear b3 C HR2 HB2
    cases th with
    | true =>
      go_wp2_with fail
      go_ret
      exact ⟨ret_int (by rw [hE.out]; rfl), HB3.out⟩
    | false =>
      go_wp2_with fail
      go_ret
      exact ⟨ret_int (by rw [hE.out]; rfl), HB3.out⟩
/-- a table of columns alone -/
abbrev colsT (A : Option Addr) (n c : Nat) (l : List C4) : T6 := ⟨⟨#[]⟩, A, n, c, l, none, 0, 0, [], none, 0, 0, none, 0, 0, [], none, 0, 0, []⟩
set_option maxHeartbeats 3200000 in
theorem columnAmiss_any (A : Option Addr) (n cc : Nat) (l : List C4) (c : C4) (w : World) (h : RdC w A n cc l) :
    Calls Tryz.prog 87 #[.slice A n cc, c.agg] w fun e w' => e = .returned (.int .i64 (colErr l c)) ∧ Below w.heap.size w w' := by
  obtain ⟨w1, hw1⟩ : ∃ w1, w1 = w.alloc (colBox c) := ⟨_, rfl⟩
  have HW1 := Lib.hid hw1
  have HB1 : Hid (Below w.heap.size w w1) := by rw [hw1]; exact below_new (Below.refl _ _) _
  have R1 : Hid (w1.heap[w.heap.size]? = some (colBox c)) := by rw [hw1]; exact heap_alloc_new _ _
  have HR := Lib.hid (h.below HB1.out)
  obtain ⟨nz, hnz⟩ : ∃ nz, Hid (nameZ c.nm = nz) := ⟨_, rfl⟩
  obtain ⟨th, hth⟩ : ∃ th, Hid (hasN C4.nm l c.nm = th) := ⟨_, rfl⟩
  obtain ⟨kd, hkd⟩ : ∃ kd, Hid (kindB c.k = kd) := ⟨_, rfl⟩
  obtain ⟨mb, hmb⟩ : ∃ mb, Hid (mayB c.k c.t = mb) := ⟨_, rfl⟩
  obtain ⟨q0, hq0⟩ : ∃ q0, (c.k == 0) = q0 := ⟨_, rfl⟩
  obtain ⟨q1, hq1⟩ : ∃ q1, (c.k == 1) = q1 := ⟨_, rfl⟩
  obtain ⟨E, hEE⟩ : ∃ E, Hid (colErr l c = E) := ⟨_, rfl⟩
  obtain ⟨z, hz⟩ : ∃ z, Hid (c.z = z) := ⟨_, rfl⟩
  have hE : Hid (E = if nz = false ∨ kd = false then 1 else if th = true then 5 else if mb = false then 6 else if z = true ∧ q0 = false ∧ q1 = false then 1 else 0) := by
    show _ = _
    rw [← hEE.out, colErr, hnz.out, hkd.out, hth.out, hmb.out, hz.out, ← hq0, ← hq1]
    simp
  rw [hEE.out]
  have CN : Hid (∀ W, Calls Tryz.prog 117 #[.string c.nm] W fun e w' => e = .returned (.bool nz) ∧ Below W.heap.size W w') := fun W => by rw [← hnz.out]; exact name_any c.nm W
  have CK : Hid (∀ W, Calls Tryz.prog 120 #[.int .i64 c.k] W fun e w' => e = .returned (.bool kd) ∧ Below W.heap.size W w') := fun W => by rw [← hkd.out]; exact knownKind_any c.k W
  have CM : Hid (∀ W, Calls Tryz.prog 121 #[.int .i64 c.k, .int .i64 c.t] W fun e w' => e = .returned (.bool mb) ∧ Below W.heap.size W w') := fun W => by rw [← hmb.out]; exact mayHave_any c.k c.t W
  obtain ⟨z0, C⟩ : ∃ z0, Hid (∀ W, RdC W A n cc l → Calls Tryz.prog 119 #[.agg #[.string ⟨#[]⟩, .slice A n cc, .slice none 0 0, .slice none 0 0, .slice none 0 0, .slice none 0 0], .string c.nm] W fun e w' => e = .returned (.tuple #[.int .i64 z0, .bool th]) ∧ Below W.heap.size W w') :=
    ⟨at0 (columnP l c.nm), fun W hW => by rw [← hth.out, ← hasN_column]; exact column_any (colsT A n cc l) c.nm W hW⟩
  obtain ⟨c0, c1, c2, c3⟩ := col_row R1.out
  clear h hnz hth hkd hmb hEE hw1
  go_enter Tryz.func87, Tryz.ntmps87
  go_upto_region 1 with fail
  rw [show w.alloc (colBox c) = w1 from HW1.out.symm]
  clear HW1
  go_wp2_with fail
  refine (C.out _ HR.out).mono ?_
  rintro e w2 ⟨rfl, b2⟩
  have HB2 := Lib.hid (below_then HB1.out b2)
  have R2 := Lib.hid (row_below R1.out b2)
  clear b2 C HR HB1 R1 c0 c1 c2 c3
  obtain ⟨c0, c1, c2, c3⟩ := col_row R2.out
  go_wp2_with fail
  refine (CN.out _).mono ?_
  rintro e w3 ⟨rfl, b3⟩
  have HB3 := Lib.hid (below_then HB2.out b3)
  have R3 := Lib.hid (row_below R2.out b3)
  clear b3 CN HB2 R2 c0 c1 c2 c3
  obtain ⟨c0, c1, c2, c3⟩ := col_row R3.out
  cases nz with
  | false =>
    go_wp2_with fail
    go_ret
    exact ⟨ret_int (by rw [hE.out]; simp), HB3.out⟩
  | true =>
    go_wp2_with fail
    refine (CK.out _).mono ?_
    rintro e w4 ⟨rfl, b4⟩
    have HB4 := Lib.hid (below_then HB3.out b4)
    have R4 := Lib.hid (row_below R3.out b4)
    clear b4 CK HB3 R3 c0 c1 c2 c3
    obtain ⟨c0, c1, c2, c3⟩ := col_row R4.out
    cases kd with
    | false =>
      go_wp2_with fail
      go_ret
      exact ⟨ret_int (by rw [hE.out]; simp), HB4.out⟩
    | true =>
      cases th with
      | true =>
        go_wp2_with fail
        go_ret
        exact ⟨ret_int (by rw [hE.out]; simp), HB4.out⟩
      | false =>
        go_wp2_with fail
        refine (CM.out _).mono ?_
        rintro e w5 ⟨rfl, b5⟩
        have HB5 := Lib.hid (below_then HB4.out b5)
        have R5 := Lib.hid (row_below R4.out b5)
        clear b5 CM HB4 R4 c0 c1 c2 c3
        obtain ⟨c0, c1, c2, c3⟩ := col_row R5.out
        rw [hz.out] at c3
        clear hz
        cases mb with
        | false =>
          go_wp2_with fail
          go_ret
          exact ⟨ret_int (by rw [hE.out]; simp), HB5.out⟩
        | true =>
          cases z with
          | false =>
            go_wp2_with fail
            go_ret
            exact ⟨ret_int (by rw [hE.out]; simp), HB5.out⟩
          | true =>
            cases q0 with
            | true =>
              have f0 : (c.k != 0) = false := by simp [bne, hq0]
              go_wp2_with fail
              go_ret
              exact ⟨ret_int (by rw [hE.out]; simp), HB5.out⟩
            | false =>
              have f0 : (c.k != 0) = true := by simp [bne, hq0]
              cases q1 with
              | true =>
                have f1 : (c.k != 1) = false := by simp [bne, hq1]
                go_wp2_with fail
                go_ret
                exact ⟨ret_int (by rw [hE.out]; simp), HB5.out⟩
              | false =>
                have f1 : (c.k != 1) = true := by simp [bne, hq1]
                go_wp2_with fail
                go_ret
                exact ⟨ret_int (by rw [hE.out]; simp), HB5.out⟩
set_option maxHeartbeats 1600000 in
theorem keyAmiss_any (c : C4) (w : World) : Calls Tryz.prog 89 #[c.agg] w fun e w' => e = .returned (.int .i64 (keyErr c)) ∧ Below w.heap.size w w' := by
  obtain ⟨w1, hw1⟩ : ∃ w1, w1 = w.alloc (colBox c) := ⟨_, rfl⟩
  have HW1 := Lib.hid hw1
  have HB1 : Hid (Below w.heap.size w w1) := by rw [hw1]; exact below_new (Below.refl _ _) _
  have R1 : Hid (w1.heap[w.heap.size]? = some (colBox c)) := by rw [hw1]; exact heap_alloc_new _ _
  obtain ⟨rg, hrg⟩ : ∃ rg, Hid (regB c = rg) := ⟨_, rfl⟩
  obtain ⟨z, hz⟩ : ∃ z, Hid (c.z = z) := ⟨_, rfl⟩
  obtain ⟨E, hEE⟩ : ∃ E, Hid (keyErr c = E) := ⟨_, rfl⟩
  have hE : Hid (E = if rg = false ∨ z = true then 6 else 0) := by show _ = _; rw [← hEE.out, keyErr, hrg.out, hz.out]
  rw [hEE.out]
  have C : Hid (∀ W, Calls Tryz.prog 122 #[.agg #[.string c.nm, .int .i64 c.k, .int .i64 c.t, .bool z]] W fun e w' => e = .returned (.bool rg) ∧ Below W.heap.size W w') := fun W => by
    rw [← hrg.out, ← hz.out]; exact register_any c W
  obtain ⟨c0, c1, c2, c3⟩ := col_row R1.out
  rw [hz.out] at c3
  clear hEE hrg hw1
  go_enter Tryz.func89, Tryz.ntmps89
  go_upto_region 1 with fail
  rw [show w.alloc (colBox c) = w1 from HW1.out.symm]
  clear HW1
  go_wp2_with fail
  refine (C.out _).mono ?_
  rintro e w2 ⟨rfl, b2⟩
  have HB2 := Lib.hid (below_then HB1.out b2)
  have R2 := Lib.hid (row_below R1.out b2)
  clear b2 C HB1 R1 c0 c1 c2 c3
  obtain ⟨c0, c1, c2, c3⟩ := col_row R2.out
  rw [hz.out] at c3
  clear hz
  cases rg with
  | false =>
    go_wp2_with fail
    go_ret
    exact ⟨ret_int (by rw [hE.out]; simp), HB2.out⟩
  | true =>
    cases z with
    | false =>
      go_wp2_with fail
      go_ret
      exact ⟨ret_int (by rw [hE.out]; simp), HB2.out⟩
    | true =>
      go_wp2_with fail
      go_ret
      exact ⟨ret_int (by rw [hE.out]; simp), HB2.out⟩
theorem max5 (a b c d e : Nat) : max (max (max (max (a : Int) (b : Int)) (c : Int)) (d : Int)) (e : Int) = ((max (max (max (max a b) c) d) e : Nat) : Int) := by omega
theorem run_max5 {P : Program} (ts : Array TypeId) (t : TypeId) (a b c d e m : Int) (h : max (max (max (max a b) c) d) e = m) (W : World) : (Builtin.max_ ts t #[.int .i64 a, .int .i64 b, .int .i64 c, .int .i64 d, .int .i64 e]).run P W = .ok (.int .i64 m) W := by
  have mx : ∀ x y : Int, (if x < y then y else x) = max x y := by intro x y; split <;> omega
  simp [Builtin.max_, Builtin.max2, mx]
  omega
set_option maxHeartbeats 1600000 in
theorem sizeAmiss_any (t : T6) (w : World) : Calls Tryz.prog 85 #[t.agg] w fun e w' => e = .returned (.int .i64 (sizeErr t)) ∧ Below w.heap.size w w' := by
  have HB := Lib.hid (below_new (Below.refl w.heap.size w) (tabBox t))
  obtain ⟨c0, c1, c2, c3, c4, c5⟩ := tab_row (heap_alloc_new w (tabBox t))
  obtain ⟨m, hm⟩ : ∃ m : Nat, Hid (max (max (max (max t.nc t.nh) t.nu) t.nf) t.ns = m) := ⟨_, rfl⟩
  have hE : Hid (sizeErr t = if t.nc = 0 ∨ 16 < m then 2 else 0) := by
    show _ = _
    have h1 := hm.out
    rw [sizeErr]
    by_cases hc : t.nc = 0 ∨ 16 < m
    · rw [if_pos hc, if_pos (by omega)]
    · rw [if_neg hc, if_neg (by omega)]
  have hmx := max5 t.nc t.nh t.nu t.nf t.ns
  rw [hm.out] at hmx
  have MX := fun ts t2 W => run_max5 (P := Tryz.prog) ts t2 _ _ _ _ _ _ hmx W
  obtain ⟨E, hEE⟩ : ∃ E, Hid (sizeErr t = E) := ⟨_, rfl⟩
  rw [hEE.out] at hE ⊢
  clear hEE hm hmx
  go_enter Tryz.func85, Tryz.ntmps85
  by_cases h1 : t.nc = 0
  · have e1 : ((t.nc : Int) == 0) = true := by simpa using h1
    have h3 : Hid (E = 2) := by show _ = _; rw [hE.out, if_pos (.inl h1)]
    clear h1
    go_wp2
    all_goals (go_ret; exact ⟨ret_int h3.out.symm, HB.out⟩)
  · have e1 : ((t.nc : Int) == 0) = false := by simpa using h1
    by_cases h2 : 16 < m
    · have h3 : Hid (E = 2) := by show _ = _; rw [hE.out, if_pos (.inr h2)]
      have h4 : (16 : Int) < (m : Int) := by omega
      clear h1
      go_wp2
      all_goals (go_ret; exact ⟨ret_int h3.out.symm, HB.out⟩)
    · have h3 : Hid (E = 0) := by show _ = _; rw [hE.out, if_neg (by omega)]
      have h4 : ¬ (16 : Int) < (m : Int) := by omega
      clear h1
      go_wp2
      all_goals (go_ret; exact ⟨ret_int h3.out.symm, HB.out⟩)
end Go.Proofs.YtfljhnalmiibeaaGreat

namespace Go.Proofs.YtfljhnalmiibeaaGreat
set_option maxRecDepth 100000
open Go.RowKit
theorem Rd.int {w : World} {A : Option Addr} {n c : Nat} {l : List Int} (h : Rd w A n c (vals .i64 l)) {k : Nat} (hk : k < n) :
    ∃ b o z, A = some ⟨b, o, none⟩ ∧ b < w.heap.size ∧ l[k]? = some z ∧ ∀ w', Below w.heap.size w w' → w'.cell? ⟨b, o + k, none⟩ = some (.int .i64 z) := by
  obtain ⟨hl, _, _, hx⟩ := h
  obtain ⟨b, o, rfl, hb, hc⟩ := hx (by omega)
  have hkl : k < l.length := by rw [vals, List.length_map] at hl; omega
  refine ⟨b, o, l[k], rfl, hb, List.getElem?_eq_getElem hkl, fun w' hw => ?_⟩
  rw [hw.cell hb, hc k (by rw [vals, List.length_map]; exact hkl)]
  simp [vals]
theorem sbelow_drewN {B : Nat} {w0 w : World} (h : Below B w0 w) : ∀ n, Below B w0 (w.drewN n)
  | 0 => h
  | n + 1 => (sbelow_drewN h n).drew
theorem getD_of {α : Type} {l : List α} {k : Nat} {x d : α} (h : l[k]? = some x) : l.getD k d = x := by
  rw [List.getD, h]; rfl
theorem RdG.colAt {w : World} {A : Option Addr} {n c : Nat} {l : List C4} (h : RdC w A n c l) {col : Int} (hb : bindB n col = true) :
    ∃ b o, A = some ⟨b, o, none⟩ ∧ b < w.heap.size ∧ (0 ≤ col ∧ col < (n : Int)) ∧ ∀ w', Below w.heap.size w w' → w'.cell? ⟨b, o + col.toNat * 4, none⟩ = some (.string (colOf l col).nm) ∧ w'.cell? ⟨b, o + col.toNat * 4 + 1, none⟩ = some (.int .i64 (colOf l col).k) ∧ w'.cell? ⟨b, o + col.toNat * 4 + 2, none⟩ = some (.int .i64 (colOf l col).t) ∧ w'.cell? ⟨b, o + col.toNat * 4 + 3, none⟩ = some (.bool (colOf l col).z) := by
  simp only [bindB, Bool.and_eq_true, decide_eq_true_eq] at hb
  obtain ⟨b, o, x, rfl, h1, hx, hc⟩ := h.col (k := col.toNat) (by omega)
  rw [show colOf l col = x from getD_of hx]
  exact ⟨b, o, rfl, h1, by omega, hc⟩
set_option maxHeartbeats 3200000 in
theorem uniqueAmiss_any (t : T6) (i : Nat) (w : World) (h : t.Reads w) (hi : i < t.nu) :
    Calls Tryz.prog 91 #[t.agg, .int .i64 i] w fun e w' => e = .returned (.int .i64 (uniErr t.cols t.uni i)) ∧ Below w.heap.size w w' := by
  obtain ⟨w1, hw1⟩ : ∃ w1, w1 = w.alloc (tabBox t) := ⟨_, rfl⟩
  have HW1 := Lib.hid hw1
  have HB1 : Hid (Below w.heap.size w w1) := by rw [hw1]; exact below_new (Below.refl _ _) _
  have R1 : Hid (w1.heap[w.heap.size]? = some (tabBox t)) := by rw [hw1]; exact heap_alloc_new _ _
  have HU := Lib.hid (h.uni.below HB1.out); have HC := Lib.hid (h.cols.below HB1.out); have HCL := Lib.hid h.cols.len
  obtain ⟨b, o, z, hua, hb, hz, hld⟩ := HU.out.int hi
  have hule := h.uni.le
  have HUA := Lib.hid hua; have HBB := Lib.hid hb; have HZ := Lib.hid hz; have HLD := Lib.hid hld
  have u0 := hld w1 (Below.refl _ _)
  obtain ⟨bd, hbd⟩ : ∃ bd, Hid (bindB t.nc z = bd) := ⟨_, rfl⟩
  obtain ⟨rg, hrg⟩ : ∃ rg, Hid (regB (colOf t.cols z) = rg) := ⟨_, rfl⟩
  obtain ⟨E, hEE⟩ : ∃ E, Hid (uniErr t.cols t.uni i = E) := ⟨_, rfl⟩
  have hE : Hid (E = if bd = false then 4 else if 0 < i ∧ z ≤ t.uni.getD (i - 1) 0 then 1 else if rg = false then 6 else 0) := by
    show _ = _
    rw [← hEE.out, uniErr, getD_of hz, HCL.out, hbd.out, hrg.out]
  rw [hEE.out]
  have CB : Hid (∀ W, Calls Tryz.prog 123 #[.agg #[.string t.nm, .slice t.ca t.nc t.cc, .slice (some ⟨b, o, none⟩) t.nu t.uc, .slice t.ha t.nh t.hc, .slice t.fa t.nf t.fc, .slice t.sa t.ns t.sc], .int .i64 z] W fun e w' => e = .returned (.bool bd) ∧ Below W.heap.size W w') := fun W => by rw [← hbd.out, ← hua]; exact bindable_any t z W
  have CR : Hid (∀ W, Calls Tryz.prog 122 #[.agg #[.string (colOf t.cols z).nm, .int .i64 (colOf t.cols z).k, .int .i64 (colOf t.cols z).t, .bool (colOf t.cols z).z]] W fun e w' => e = .returned (.bool rg) ∧ Below W.heap.size W w') := fun W => by rw [← hrg.out]; exact register_any _ W
  obtain ⟨c0, c1, c2, c3, c4, c5⟩ := tab_row R1.out
  rw [hua] at c2
  have y1 : (i : Int) < (t.nu : Int) := by omega
  have y0 : (0 : Int) ≤ (i : Int) := by omega
  clear h hw1 hEE hrg hua hb hz hld
  go_enter Tryz.func91, Tryz.ntmps91
  go_upto_region 1 with fail
  rw [show w.alloc (tabBox t) = w1 from HW1.out.symm]
  clear HW1
  go_wp2_with fail
  refine (CB.out _).mono ?_
  rintro e w2 ⟨rfl, b2⟩
  have HB2 := Lib.hid (below_then HB1.out b2)
  have R2 := Lib.hid (row_below R1.out b2)
  have HL2 := Lib.hid (HLD.out w2 b2)
  have HW12 := Lib.hid b2
  clear b2 CB R1 c0 c1 c2 c3 c4 c5 u0
  cases bd with
  | false =>
    go_wp2_with fail
    go_ret
    exact ⟨ret_int (by rw [hE.out]; rfl), HB2.out⟩
  | true =>
    obtain ⟨bc, oc, hca, hbc, ⟨z0, z1⟩, hcl⟩ := HC.out.colAt hbd.out
    obtain ⟨d0, d1, d2, d3⟩ := hcl w2 HW12.out
    obtain ⟨c0, c1, c2, c3, c4, c5⟩ := tab_row R2.out
    rw [HUA.out] at c2
    rw [hca] at c1
    clear hcl hca hbc hbd
    by_cases hi0 : 0 < i
    · obtain ⟨b', o', y, hua', hb', hy, hld'⟩ := HU.out.int (show i - 1 < t.nu by omega)
      have ea := HUA.out.symm.trans hua'
      cases ea
      have e0 := hld' w2 HW12.out
      have y2 : (0 : Int) < (i : Int) := by omega
      have y3 : IntKind.i64.wrap ((i : Int) - 1) = (i : Int) - 1 := wrap_is (by omega)
      have y4 : ((i : Int) - 1).toNat = i - 1 := by omega
      have y5 : (0 : Int) ≤ (i : Int) - 1 := by omega
      have y6 : (i : Int) - 1 < (t.nu : Int) := by omega
      have y7 : (1 : Int) ≤ (i : Int) := by omega
      have hE2 : Hid (E = if z ≤ y then 1 else if rg = false then 6 else 0) := by
        show _ = _
        rw [hE.out, getD_of hy]; simp [hi0]
      clear hld' hb' hua' hy hE
      by_cases hzy : z ≤ y
      · have hE3 : Hid (E = 1) := by show _ = _; rw [hE2.out, if_pos hzy]
        clear hi0
        go_wp2_with fail
        go_ret
        exact ⟨ret_int hE3.out.symm, HB2.out⟩
      · have hE3 : Hid (E = if rg = false then 6 else 0) := by show _ = _; rw [hE2.out, if_neg hzy]
        clear hi0 hE2
        go_wp2_with fail
        refine (CR.out _).mono ?_
        rintro e w3 ⟨rfl, b3⟩
        have HB3 := Lib.hid (below_then HB2.out b3)
        clear b3 CR
        cases rg with
        | false =>
          go_wp2_with fail
          go_ret
          exact ⟨ret_int (by rw [hE3.out]; rfl), HB3.out⟩
        | true =>
          go_wp2_with fail
          go_ret
          exact ⟨ret_int (by rw [hE3.out]; rfl), HB3.out⟩
    · have y2 : ¬ (0 : Int) < (i : Int) := by omega
      have hE3 : Hid (E = if rg = false then 6 else 0) := by show _ = _; rw [hE.out]; simp [hi0]
      clear hi0 hE
      go_wp2_with fail
      refine (CR.out _).mono ?_
      rintro e w3 ⟨rfl, b3⟩
      have HB3 := Lib.hid (below_then HB2.out b3)
      clear b3 CR
      cases rg with
      | false =>
        go_wp2_with fail
        go_ret
        exact ⟨ret_int (by rw [hE3.out]; rfl), HB3.out⟩
      | true =>
        go_wp2_with fail
        go_ret
        exact ⟨ret_int (by rw [hE3.out]; rfl), HB3.out⟩
set_option maxHeartbeats 3200000 in
theorem number_any (t : T6) (col : Int) (w : World) (h : RdC w t.ca t.nc t.cc t.cols) :
    Calls Tryz.prog 163 #[t.agg, .int .i64 col] w fun e w' => e = .returned (.tuple #[.bool (bindB t.nc col), .bool (bindB t.nc col && regB (colOf t.cols col))]) ∧ Below w.heap.size w w' := by
  obtain ⟨w1, hw1⟩ : ∃ w1, w1 = w.alloc (tabBox t) := ⟨_, rfl⟩
  have HW1 := Lib.hid hw1
  have HB1 : Hid (Below w.heap.size w w1) := by rw [hw1]; exact below_new (Below.refl _ _) _
  have R1 : Hid (w1.heap[w.heap.size]? = some (tabBox t)) := by rw [hw1]; exact heap_alloc_new _ _
  have HC := Lib.hid (h.below HB1.out)
  obtain ⟨bd, hbd⟩ : ∃ bd, Hid (bindB t.nc col = bd) := ⟨_, rfl⟩
  obtain ⟨rg, hrg⟩ : ∃ rg, Hid (regB (colOf t.cols col) = rg) := ⟨_, rfl⟩
  rw [hbd.out, hrg.out]
  clear hw1 h
  cases bd with
  | false =>
    rw [Bool.false_and]
    obtain ⟨c0, c1, c2, c3, c4, c5⟩ := tab_row R1.out
    have hno : Hid (col < 1 ∨ (t.nc : Int) ≤ col) := by
      have := hbd.out
      simp only [bindB, Bool.and_eq_false_iff, decide_eq_false_iff_not] at this
      show _ ∨ _
      omega
    clear hbd hrg
    go_enter Tryz.func163, Tryz.ntmps163
    go_upto_region 1 with fail
    rw [show w.alloc (tabBox t) = w1 from HW1.out.symm]
    clear HW1
    by_cases h1 : col < 1
    · go_wp2_with fail
      go_ret2
      exact ⟨rfl, HB1.out⟩
    · have h2 : (t.nc : Int) ≤ col := by rcases hno.out with h | h; exact absurd h h1; exact h
      go_wp2_with fail
      go_ret2
      exact ⟨rfl, HB1.out⟩
  | true =>
    rw [Bool.true_and]
    obtain ⟨bc, oc, hca, hbc, ⟨z0, z1⟩, hcl⟩ := HC.out.colAt hbd.out
    obtain ⟨d0, d1, d2, d3⟩ := hcl w1 (Below.refl _ _)
    obtain ⟨c0, c1, c2, c3, c4, c5⟩ := tab_row R1.out
    rw [hca] at c1
    have h1 : ¬ col < 1 := by
      have := hbd.out
      simp only [bindB, Bool.and_eq_true, decide_eq_true_eq] at this
      omega
    have h2 : ¬ (t.nc : Int) ≤ col := by omega
    generalize colOf t.cols col = x at d0 d1 d2 d3 hrg
    obtain ⟨q, hq⟩ : ∃ q, (x.k == 0) = q := ⟨_, rfl⟩
    obtain ⟨r, hr⟩ : ∃ r, (x.t == 1) = r := ⟨_, rfl⟩
    have h3 : Hid (rg = (q && r)) := by show _ = _; rw [← hrg.out, regB, hq, hr]
    clear hcl hca hbc hbd hrg
    go_enter Tryz.func163, Tryz.ntmps163
    go_upto_region 1 with fail
    rw [show w.alloc (tabBox t) = w1 from HW1.out.symm]
    clear HW1
    cases q with
    | true =>
      go_wp2_with fail
      go_quiet (fail)
      go_wp2_with fail
      go_ret2
      exact ⟨by rw [h3.out]; rfl, sbelow_drewN HB1.out _⟩
    | false =>
      go_wp2_with fail
      go_quiet (fail)
      go_wp2_with fail
      go_ret2
      exact ⟨by rw [h3.out]; rfl, sbelow_drewN HB1.out _⟩
end Go.Proofs.YtfljhnalmiibeaaGreat

