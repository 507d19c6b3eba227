/- Layer 11: what is amiss in a name, in a size, in a column, in the key: the code's questions. -/
import Derived.Test.YtogfnjlhfbpneaaSchHelp
namespace Go.Proofs.Ytogfnjlhfbpneaa
set_option maxRecDepth 100000
open Go.RowKit

theorem hasN_table (l : List T6) (s : ByteArray) : (tableP l s).isSome = hasN T6.nm l s := findP_any _ l
theorem hasN_column (l : List C4) (s : ByteArray) : (columnP l s).isSome = hasN C4.nm l s := findP_any _ l

set_option maxHeartbeats 1600000 in
theorem nameAmiss_any (A : Option Addr) (n c : Nat) (l : List T6) (s : ByteArray) (w : World) (h : RdS w A n c l) :
    Calls Try.prog 35 #[.slice A n c, .string s] w fun e w' => e = .returned (.int .i64 (nameErr l s)) ∧ Below w.heap.size w w' := by
  have HR := Lib.hid h
  obtain ⟨nz, hnz⟩ : ∃ nz, Hid (nameZ s = nz) := ⟨_, rfl⟩
  obtain ⟨th, hth⟩ : ∃ th, Hid (hasN T6.nm l s = th) := ⟨_, rfl⟩
  have hE : Hid (nameErr l s = if nz = false then 1 else if th = true then 5 else 0) := by show _ = _; rw [nameErr, hnz.out, hth.out]
  obtain ⟨E, hEE⟩ : ∃ E, Hid (nameErr l s = E) := ⟨_, rfl⟩
  rw [hEE.out] at hE ⊢
  have CN := Lib.hid (name_any s w)
  rw [hnz.out] at CN
  obtain ⟨z0, C⟩ : ∃ z0, Hid (∀ W, RdS W A n c l → Calls Try.prog 16 #[.agg #[.slice A n c], .string s] W fun e w' => e = .returned (.tuple #[.int .i64 z0, .bool th]) ∧ Below W.heap.size W w') :=
    ⟨at0 (tableP l s), fun W hW => by rw [← hth.out, ← hasN_table]; exact table_any A n c l s W hW⟩
  clear h hnz hth hEE
  go_enter Try.func35, Try.ntmps35
  go_wp2_with fail
  refine CN.out.mono ?_
  rintro e w2 ⟨rfl, b2⟩
  have HB2 := Lib.hid b2
  have HR2 := Lib.hid (HR.out.below b2)
  clear b2 CN HR
  cases nz with
  | false =>
    go_wp2_with fail
    go_ret
    exact ⟨ret_int (by rw [hE.out]; rfl), HB2.out⟩
  | true =>
    go_wp2_with fail
    refine (C.out _ HR2.out).mono ?_
    rintro e w3 ⟨rfl, b3⟩
    have HB3 := Lib.hid (below_then HB2.out b3)
    clear b3 C HR2 HB2
    cases th with
    | true =>
      go_wp2_with fail
      go_ret
      exact ⟨ret_int (by rw [hE.out]; rfl), HB3.out⟩
    | false =>
      go_wp2_with fail
      go_ret
      exact ⟨ret_int (by rw [hE.out]; rfl), HB3.out⟩

/-- a table of columns alone -/
abbrev colsT (A : Option Addr) (n c : Nat) (l : List C4) : T6 := ⟨⟨#[]⟩, A, n, c, l, none, 0, 0, [], none, 0, 0, none, 0, 0, [], none, 0, 0, []⟩

set_option maxHeartbeats 3200000 in
theorem columnAmiss_any (A : Option Addr) (n cc : Nat) (l : List C4) (c : C4) (w : World) (h : RdC w A n cc l) :
    Calls Try.prog 39 #[.slice A n cc, c.agg] w fun e w' => e = .returned (.int .i64 (colErr l c)) ∧ Below w.heap.size w w' := by
  obtain ⟨w1, hw1⟩ : ∃ w1, w1 = w.alloc (colBox c) := ⟨_, rfl⟩
  have HW1 := Lib.hid hw1
  have HB1 : Hid (Below w.heap.size w w1) := by rw [hw1]; exact below_new (Below.refl _ _) _
  have R1 : Hid (w1.heap[w.heap.size]? = some (colBox c)) := by rw [hw1]; exact heap_alloc_new _ _
  have HR := Lib.hid (h.below HB1.out)
  obtain ⟨nz, hnz⟩ : ∃ nz, Hid (nameZ c.nm = nz) := ⟨_, rfl⟩
  obtain ⟨th, hth⟩ : ∃ th, Hid (hasN C4.nm l c.nm = th) := ⟨_, rfl⟩
  obtain ⟨kd, hkd⟩ : ∃ kd, Hid (kindB c.k = kd) := ⟨_, rfl⟩
  obtain ⟨mb, hmb⟩ : ∃ mb, Hid (mayB c.k c.t = mb) := ⟨_, rfl⟩
  obtain ⟨q0, hq0⟩ : ∃ q0, (c.k == 0) = q0 := ⟨_, rfl⟩
  obtain ⟨q1, hq1⟩ : ∃ q1, (c.k == 1) = q1 := ⟨_, rfl⟩
  obtain ⟨E, hEE⟩ : ∃ E, Hid (colErr l c = E) := ⟨_, rfl⟩
  obtain ⟨z, hz⟩ : ∃ z, Hid (c.z = z) := ⟨_, rfl⟩
  have hE : Hid (E = if nz = false ∨ kd = false then 1 else if th = true then 5 else if mb = false then 6 else if z = true ∧ q0 = false ∧ q1 = false then 1 else 0) := by
    show _ = _
    rw [← hEE.out, colErr, hnz.out, hkd.out, hth.out, hmb.out, hz.out, ← hq0, ← hq1]
    simp
  rw [hEE.out]
  have CN : Hid (∀ W, Calls Try.prog 11 #[.string c.nm] W fun e w' => e = .returned (.bool nz) ∧ Below W.heap.size W w') := fun W => by rw [← hnz.out]; exact name_any c.nm W
  have CK : Hid (∀ W, Calls Try.prog 49 #[.int .i64 c.k] W fun e w' => e = .returned (.bool kd) ∧ Below W.heap.size W w') := fun W => by rw [← hkd.out]; exact knownKind_any c.k W
  have CM : Hid (∀ W, Calls Try.prog 50 #[.int .i64 c.k, .int .i64 c.t] W fun e w' => e = .returned (.bool mb) ∧ Below W.heap.size W w') := fun W => by rw [← hmb.out]; exact mayHave_any c.k c.t W
  obtain ⟨z0, C⟩ : ∃ z0, Hid (∀ W, RdC W A n cc l → Calls Try.prog 18 #[.agg #[.string ⟨#[]⟩, .slice A n cc, .slice none 0 0, .slice none 0 0, .slice none 0 0, .slice none 0 0], .string c.nm] W fun e w' => e = .returned (.tuple #[.int .i64 z0, .bool th]) ∧ Below W.heap.size W w') :=
    ⟨at0 (columnP l c.nm), fun W hW => by rw [← hth.out, ← hasN_column]; exact column_any (colsT A n cc l) c.nm W hW⟩
  obtain ⟨c0, c1, c2, c3⟩ := col_row R1.out
  clear h hnz hth hkd hmb hEE hw1
  go_enter Try.func39, Try.ntmps39
  go_upto_region 1 with fail
  rw [show w.alloc (colBox c) = w1 from HW1.out.symm]
  clear HW1
  go_wp2_with fail
  refine (C.out _ HR.out).mono ?_
  rintro e w2 ⟨rfl, b2⟩
  have HB2 := Lib.hid (below_then HB1.out b2)
  have R2 := Lib.hid (row_below R1.out b2)
  clear b2 C HR HB1 R1 c0 c1 c2 c3
  obtain ⟨c0, c1, c2, c3⟩ := col_row R2.out
  go_wp2_with fail
  refine (CN.out _).mono ?_
  rintro e w3 ⟨rfl, b3⟩
  have HB3 := Lib.hid (below_then HB2.out b3)
  have R3 := Lib.hid (row_below R2.out b3)
  clear b3 CN HB2 R2 c0 c1 c2 c3
  obtain ⟨c0, c1, c2, c3⟩ := col_row R3.out
  cases nz with
  | false =>
    go_wp2_with fail
    go_ret
    exact ⟨ret_int (by rw [hE.out]; simp), HB3.out⟩
  | true =>
    go_wp2_with fail
    refine (CK.out _).mono ?_
    rintro e w4 ⟨rfl, b4⟩
    have HB4 := Lib.hid (below_then HB3.out b4)
    have R4 := Lib.hid (row_below R3.out b4)
    clear b4 CK HB3 R3 c0 c1 c2 c3
    obtain ⟨c0, c1, c2, c3⟩ := col_row R4.out
    cases kd with
    | false =>
      go_wp2_with fail
      go_ret
      exact ⟨ret_int (by rw [hE.out]; simp), HB4.out⟩
    | true =>
      cases th with
      | true =>
        go_wp2_with fail
        go_ret
        exact ⟨ret_int (by rw [hE.out]; simp), HB4.out⟩
      | false =>
        go_wp2_with fail
        refine (CM.out _).mono ?_
        rintro e w5 ⟨rfl, b5⟩
        have HB5 := Lib.hid (below_then HB4.out b5)
        have R5 := Lib.hid (row_below R4.out b5)
        clear b5 CM HB4 R4 c0 c1 c2 c3
        obtain ⟨c0, c1, c2, c3⟩ := col_row R5.out
        rw [hz.out] at c3
        clear hz
        cases mb with
        | false =>
          go_wp2_with fail
          go_ret
          exact ⟨ret_int (by rw [hE.out]; simp), HB5.out⟩
        | true =>
          cases z with
          | false =>
            go_wp2_with fail
            go_ret
            exact ⟨ret_int (by rw [hE.out]; simp), HB5.out⟩
          | true =>
            cases q0 with
            | true =>
              have f0 : (c.k != 0) = false := by simp [bne, hq0]
              go_wp2_with fail
              go_ret
              exact ⟨ret_int (by rw [hE.out]; simp), HB5.out⟩
            | false =>
              have f0 : (c.k != 0) = true := by simp [bne, hq0]
              cases q1 with
              | true =>
                have f1 : (c.k != 1) = false := by simp [bne, hq1]
                go_wp2_with fail
                go_ret
                exact ⟨ret_int (by rw [hE.out]; simp), HB5.out⟩
              | false =>
                have f1 : (c.k != 1) = true := by simp [bne, hq1]
                go_wp2_with fail
                go_ret
                exact ⟨ret_int (by rw [hE.out]; simp), HB5.out⟩

set_option maxHeartbeats 1600000 in
theorem keyAmiss_any (c : C4) (w : World) : Calls Try.prog 41 #[c.agg] w fun e w' => e = .returned (.int .i64 (keyErr c)) ∧ Below w.heap.size w w' := by
  obtain ⟨w1, hw1⟩ : ∃ w1, w1 = w.alloc (colBox c) := ⟨_, rfl⟩
  have HW1 := Lib.hid hw1
  have HB1 : Hid (Below w.heap.size w w1) := by rw [hw1]; exact below_new (Below.refl _ _) _
  have R1 : Hid (w1.heap[w.heap.size]? = some (colBox c)) := by rw [hw1]; exact heap_alloc_new _ _
  obtain ⟨rg, hrg⟩ : ∃ rg, Hid (regB c = rg) := ⟨_, rfl⟩
  obtain ⟨z, hz⟩ : ∃ z, Hid (c.z = z) := ⟨_, rfl⟩
  obtain ⟨E, hEE⟩ : ∃ E, Hid (keyErr c = E) := ⟨_, rfl⟩
  have hE : Hid (E = if rg = false ∨ z = true then 6 else 0) := by show _ = _; rw [← hEE.out, keyErr, hrg.out, hz.out]
  rw [hEE.out]
  have C : Hid (∀ W, Calls Try.prog 51 #[.agg #[.string c.nm, .int .i64 c.k, .int .i64 c.t, .bool z]] W fun e w' => e = .returned (.bool rg) ∧ Below W.heap.size W w') := fun W => by
    rw [← hrg.out, ← hz.out]; exact register_any c W
  obtain ⟨c0, c1, c2, c3⟩ := col_row R1.out
  rw [hz.out] at c3
  clear hEE hrg hw1
  go_enter Try.func41, Try.ntmps41
  go_upto_region 1 with fail
  rw [show w.alloc (colBox c) = w1 from HW1.out.symm]
  clear HW1
  go_wp2_with fail
  refine (C.out _).mono ?_
  rintro e w2 ⟨rfl, b2⟩
  have HB2 := Lib.hid (below_then HB1.out b2)
  have R2 := Lib.hid (row_below R1.out b2)
  clear b2 C HB1 R1 c0 c1 c2 c3
  obtain ⟨c0, c1, c2, c3⟩ := col_row R2.out
  rw [hz.out] at c3
  clear hz
  cases rg with
  | false =>
    go_wp2_with fail
    go_ret
    exact ⟨ret_int (by rw [hE.out]; simp), HB2.out⟩
  | true =>
    cases z with
    | false =>
      go_wp2_with fail
      go_ret
      exact ⟨ret_int (by rw [hE.out]; simp), HB2.out⟩
    | true =>
      go_wp2_with fail
      go_ret
      exact ⟨ret_int (by rw [hE.out]; simp), HB2.out⟩

theorem max5 (a b c d e : Nat) : max (max (max (max (a : Int) (b : Int)) (c : Int)) (d : Int)) (e : Int) = ((max (max (max (max a b) c) d) e : Nat) : Int) := by omega
theorem run_max5 {P : Program} (ts : Array TypeId) (t : TypeId) (a b c d e m : Int) (h : max (max (max (max a b) c) d) e = m) (W : World) : (Builtin.max_ ts t #[.int .i64 a, .int .i64 b, .int .i64 c, .int .i64 d, .int .i64 e]).run P W = .ok (.int .i64 m) W := by
  have mx : ∀ x y : Int, (if x < y then y else x) = max x y := by intro x y; split <;> omega
  simp [Builtin.max_, Builtin.max2, mx]
  omega
set_option maxHeartbeats 1600000 in
theorem sizeAmiss_any (t : T6) (w : World) : Calls Try.prog 37 #[t.agg] w fun e w' => e = .returned (.int .i64 (sizeErr t)) ∧ Below w.heap.size w w' := by
  have HB := Lib.hid (below_new (Below.refl w.heap.size w) (tabBox t))
  obtain ⟨c0, c1, c2, c3, c4, c5⟩ := tab_row (heap_alloc_new w (tabBox t))
  obtain ⟨m, hm⟩ : ∃ m : Nat, Hid (max (max (max (max t.nc t.nh) t.nu) t.nf) t.ns = m) := ⟨_, rfl⟩
  have hE : Hid (sizeErr t = if t.nc = 0 ∨ 16 < m then 2 else 0) := by
    show _ = _
    have h1 := hm.out
    rw [sizeErr]
    by_cases hc : t.nc = 0 ∨ 16 < m
    · rw [if_pos hc, if_pos (by omega)]
    · rw [if_neg hc, if_neg (by omega)]
  have hmx := max5 t.nc t.nh t.nu t.nf t.ns
  rw [hm.out] at hmx
  have MX := fun ts t2 W => run_max5 (P := Try.prog) ts t2 _ _ _ _ _ _ hmx W
  obtain ⟨E, hEE⟩ : ∃ E, Hid (sizeErr t = E) := ⟨_, rfl⟩
  rw [hEE.out] at hE ⊢
  clear hEE hm hmx
  go_enter Try.func37, Try.ntmps37
  by_cases h1 : t.nc = 0
  · have e1 : ((t.nc : Int) == 0) = true := by simpa using h1
    have h3 : Hid (E = 2) := by show _ = _; rw [hE.out, if_pos (.inl h1)]
    clear h1
    go_wp2
    all_goals (go_ret; exact ⟨ret_int h3.out.symm, HB.out⟩)
  · have e1 : ((t.nc : Int) == 0) = false := by simpa using h1
    by_cases h2 : 16 < m
    · have h3 : Hid (E = 2) := by show _ = _; rw [hE.out, if_pos (.inr h2)]
      have h4 : (16 : Int) < (m : Int) := by omega
      clear h1
      go_wp2
      all_goals (go_ret; exact ⟨ret_int h3.out.symm, HB.out⟩)
    · have h3 : Hid (E = 0) := by show _ = _; rw [hE.out, if_neg (by omega)]
      have h4 : ¬ (16 : Int) < (m : Int) := by omega
      clear h1
      go_wp2
      all_goals (go_ret; exact ⟨ret_int h3.out.symm, HB.out⟩)
end Go.Proofs.Ytogfnjlhfbpneaa
