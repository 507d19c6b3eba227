/- Layer 3: some rows: the live question at each statement's head. -/
import Derived.Test.YtijhcoidhlmecaaRowGet2
import Derived.Test.YtijhcoidhlmecaaLaw
namespace Go.Proofs.Ytijhcoidhlmecaa
set_option maxRecDepth 100000
open Go.RowKit

set_option maxHeartbeats 800000 in
theorem num_any (n : Int) (w : World) : Calls Try.prog 26 #[.int .i64 n] w fun e w' => e = .returned (.agg #[.int .i64 1, .int .i64 n, .string ⟨#[]⟩]) ∧ Below w.heap.size w w' := by
  have HR := Lib.hid (heap_alloc_new w (.cells #[.int .i64 0, .int .i64 0, .string ⟨#[]⟩] 44))
  go_enter Try.func26, Try.ntmps26
  go_wp2
  refine bodyPost_ret (v := .agg #[.int .i64 1, .int .i64 n, .string ⟨#[]⟩]) (results_cell_row rfl _ _ w.heap.size 44 _ (0, 0) _ rfl (by first | exact heap_alloc_new _ _ | exact set3 HR.out) Try.underlying44 rfl (by kernel_rfl)) rfl ⟨rfl, by first | exact below_new (Below.refl _ _) _ | exact below_set3 (below_new (Below.refl _ _) _) (Nat.le_refl _)⟩

set_option maxHeartbeats 800000 in
theorem str_any (s : ByteArray) (w : World) : Calls Try.prog 27 #[.string s] w fun e w' => e = .returned (.agg #[.int .i64 2, .int .i64 0, .string s]) ∧ Below w.heap.size w w' := by
  have HR := Lib.hid (heap_alloc_new w (.cells #[.int .i64 0, .int .i64 0, .string ⟨#[]⟩] 44))
  go_enter Try.func27, Try.ntmps27
  go_wp2
  refine bodyPost_ret (v := .agg #[.int .i64 2, .int .i64 0, .string s]) (results_cell_row rfl _ _ w.heap.size 44 _ (0, 0) _ rfl (by first | exact heap_alloc_new _ _ | exact set3 HR.out) Try.underlying44 rfl (by kernel_rfl)) rfl ⟨rfl, by first | exact below_new (Below.refl _ _) _ | exact below_set3 (below_new (Below.refl _ _) _) (Nat.le_refl _)⟩

abbrev alv1 : V3 := ⟨1, 1, ⟨#[]⟩⟩
abbrev alvx : V3 := ⟨2, 0, ⟨#[120]⟩⟩
abbrev alvy : V3 := ⟨2, 0, ⟨#[121]⟩⟩
abbrev alv5 : V3 := ⟨1, 5, ⟨#[]⟩⟩
abbrev alv2 : V3 := ⟨1, 2, ⟨#[]⟩⟩
abbrev alv0 : V3 := ⟨0, 0, ⟨#[]⟩⟩
abbrev alCols : List C4 := [⟨⟨#[]⟩, 0, 1, false⟩, ⟨⟨#[]⟩, 1, 2, true⟩, ⟨⟨#[]⟩, 2, 0, false⟩]

set_option maxHeartbeats 6400000 in
theorem alive_any (w : World) : Calls Try.prog 11 #[] w fun e w' => e = .returned (.bool true) ∧ Below w.heap.size w w' := by
  have NUM : Hid (∀ z W, Calls Try.prog 26 #[.int .i64 z] W fun e w' => e = .returned (.agg #[.int .i64 1, .int .i64 z, .string ⟨#[]⟩]) ∧ Below W.heap.size W w') := Lib.hid num_any
  have TXT : Hid (∀ s W, Calls Try.prog 27 #[.string s] W fun e w' => e = .returned (.agg #[.int .i64 2, .int .i64 0, .string s]) ∧ Below W.heap.size W w') := Lib.hid str_any
  have SZ : Hid (∀ x ∈ [alv1, alvx, alvy, alv5, alv2, alv0], x.s.size ≤ 4294967296) := Lib.hid (by decide)
  have RC := Lib.hid (rdg_new (enc := C4.cells) c4len w alCols #[.string ⟨#[]⟩, .int .i64 0, .int .i64 1, .bool false, .string ⟨#[]⟩, .int .i64 1, .int .i64 2, .bool true, .string ⟨#[]⟩, .int .i64 2, .int .i64 0, .bool false] 28 (n := 3) (g := w.heap.size) rfl rfl (by decide) rfl)
  have B0 := below_new (Below.refl w.heap.size w) (.cells #[.string ⟨#[]⟩, .int .i64 0, .int .i64 1, .bool false, .string ⟨#[]⟩, .int .i64 1, .int .i64 2, .bool true, .string ⟨#[]⟩, .int .i64 2, .int .i64 0, .bool false] 28)
  go_enter Try.func11, Try.ntmps11
  go_wp2_with fail
  refine (NUM.out 1 _).mono ?_
  rintro e w1 ⟨rfl, b1⟩
  have B1 := below_then B0 b1
  replace RC := Lib.hid (RC.out.below b1)
  clear b1
  go_wp2_with fail
  refine (TXT.out ⟨#[120]⟩ _).mono ?_
  rintro e w2 ⟨rfl, b2⟩
  have B2 := below_then B1 b2
  replace RC := Lib.hid (RC.out.below b2)
  clear b2
  have hn := below_new (Below.refl w2.heap.size w2) (.cells #[.int .i64 1, .int .i64 1, .string ⟨#[]⟩, .int .i64 2, .int .i64 0, .string ⟨#[120]⟩] 44)
  replace RC := Lib.hid (RC.out.below hn)
  have RA := Lib.hid (rdg_new (enc := V3.cells) v3len w2 [alv1, alvx] #[.int .i64 1, .int .i64 1, .string ⟨#[]⟩, .int .i64 2, .int .i64 0, .string ⟨#[120]⟩] 44 (n := 2) (g := (w2.heap.size)) rfl rfl (by decide) (by simp))
  have B2' := below_new B2 (.cells #[.int .i64 1, .int .i64 1, .string ⟨#[]⟩, .int .i64 2, .int .i64 0, .string ⟨#[120]⟩] 44)
  clear hn
  go_wp2_with fail
  refine (NUM.out 1 _).mono ?_
  rintro e w3 ⟨rfl, b3⟩
  have B3 := below_then B2' b3
  replace RC := Lib.hid (RC.out.below b3)
  replace RA := Lib.hid (RA.out.below b3)
  clear b3
  go_wp2_with fail
  refine (TXT.out ⟨#[121]⟩ _).mono ?_
  rintro e w4 ⟨rfl, b4⟩
  have B4 := below_then B3 b4
  replace RC := Lib.hid (RC.out.below b4)
  replace RA := Lib.hid (RA.out.below b4)
  clear b4
  have hn := below_new (Below.refl w4.heap.size w4) (.cells #[.int .i64 1, .int .i64 1, .string ⟨#[]⟩, .int .i64 2, .int .i64 0, .string ⟨#[121]⟩] 44)
  replace RC := Lib.hid (RC.out.below hn)
  replace RA := Lib.hid (RA.out.below hn)
  have RB := Lib.hid (rdg_new (enc := V3.cells) v3len w4 [alv1, alvy] #[.int .i64 1, .int .i64 1, .string ⟨#[]⟩, .int .i64 2, .int .i64 0, .string ⟨#[121]⟩] 44 (n := 2) (g := (w4.heap.size)) rfl rfl (by decide) (by simp))
  have B4' := below_new B4 (.cells #[.int .i64 1, .int .i64 1, .string ⟨#[]⟩, .int .i64 2, .int .i64 0, .string ⟨#[121]⟩] 44)
  clear hn
  go_wp2_with fail
  refine (fresh_len (rowBytes_any _ _ _ _ _ RA.out (by intro v hv; simp at hv; rcases hv with rfl | rfl <;> exact ⟨by decide, by decide, by decide⟩) (by decide)) (m := 6) (by kernel_rfl)).mono ?_
  rintro e w5 ⟨A3, c3, rfl, rd3, b5⟩
  have B5 := below_then B4' b5
  replace RC := Lib.hid (RC.out.below b5)
  replace RA := Lib.hid (RA.out.below b5)
  replace RB := Lib.hid (RB.out.below b5)
  clear b5
  have RY := Lib.hid rd3
  go_wp2_with fail
  refine (rowGet_any _ _ _ _ _ rd3 (by intro x hx; revert x; decide) (by decide)).mono ?_
  rintro e w6 ⟨b6, _, hg⟩
  have B6 := below_then B5 b6
  replace RC := Lib.hid (RC.out.below b6)
  replace RA := Lib.hid (RA.out.below b6)
  replace RB := Lib.hid (RB.out.below b6)
  clear b6
  obtain ⟨A4, c4, rfl, rd4⟩ := hg [alv1, alvx] 6 (by kernel_rfl)
  have RG := Lib.hid rd4
  clear rd3 rd4 hg RY
  go_wp2_with fail
  refine (NUM.out 1 _).mono ?_
  rintro e w7 ⟨rfl, b7⟩
  have B7 := below_then B6 b7
  replace RC := Lib.hid (RC.out.below b7)
  replace RA := Lib.hid (RA.out.below b7)
  replace RB := Lib.hid (RB.out.below b7)
  replace RG := Lib.hid (RG.out.below b7)
  clear b7
  go_wp2_with fail
  refine (TXT.out ⟨#[120]⟩ _).mono ?_
  rintro e w8 ⟨rfl, b8⟩
  have B8 := below_then B7 b8
  replace RC := Lib.hid (RC.out.below b8)
  replace RA := Lib.hid (RA.out.below b8)
  replace RB := Lib.hid (RB.out.below b8)
  replace RG := Lib.hid (RG.out.below b8)
  clear b8
  go_wp2_with fail
  refine (NUM.out 5 _).mono ?_
  rintro e w9 ⟨rfl, b9⟩
  have B9 := below_then B8 b9
  replace RC := Lib.hid (RC.out.below b9)
  replace RA := Lib.hid (RA.out.below b9)
  replace RB := Lib.hid (RB.out.below b9)
  replace RG := Lib.hid (RG.out.below b9)
  clear b9
  have hn := below_new (Below.refl w9.heap.size w9) (.cells #[.int .i64 1, .int .i64 1, .string ⟨#[]⟩, .int .i64 2, .int .i64 0, .string ⟨#[120]⟩, .int .i64 1, .int .i64 5, .string ⟨#[]⟩] 44)
  replace RC := Lib.hid (RC.out.below hn)
  replace RA := Lib.hid (RA.out.below hn)
  replace RB := Lib.hid (RB.out.below hn)
  replace RG := Lib.hid (RG.out.below hn)
  have R1 := Lib.hid (rdg_new (enc := V3.cells) v3len w9 [alv1, alvx, alv5] #[.int .i64 1, .int .i64 1, .string ⟨#[]⟩, .int .i64 2, .int .i64 0, .string ⟨#[120]⟩, .int .i64 1, .int .i64 5, .string ⟨#[]⟩] 44 (n := 3) (g := (w9.heap.size)) rfl rfl (by decide) (by simp))
  have B9' := below_new B9 (.cells #[.int .i64 1, .int .i64 1, .string ⟨#[]⟩, .int .i64 2, .int .i64 0, .string ⟨#[120]⟩, .int .i64 1, .int .i64 5, .string ⟨#[]⟩] 44)
  clear hn
  have hm : ∀ x ∈ [alv1, alvx, alv5], x.s.size ≤ 4294967296 := fun x hx => SZ.out x (by simp at hx ⊢; rcases hx with rfl | rfl | rfl <;> simp)
  go_wp2_with fail
  refine ((show Calls _ _ _ _ _ from by have := rowRight_any _ _ _ _ _ _ _ _ _ RC.out R1.out hm; rwa [show rowErr alCols [alv1, alvx, alv5] = 0 by kernel_rfl] at this)).mono ?_
  rintro e w10 ⟨rfl, b10⟩
  have B10 := below_then B9' b10
  replace RC := Lib.hid (RC.out.below b10)
  replace RA := Lib.hid (RA.out.below b10)
  replace RB := Lib.hid (RB.out.below b10)
  replace RG := Lib.hid (RG.out.below b10)
  replace R1 := Lib.hid (R1.out.below b10)
  clear b10
  clear hm
  go_wp2_with fail
  refine (NUM.out 1 _).mono ?_
  rintro e w11 ⟨rfl, b11⟩
  have B11 := below_then B10 b11
  replace RC := Lib.hid (RC.out.below b11)
  replace RA := Lib.hid (RA.out.below b11)
  replace RB := Lib.hid (RB.out.below b11)
  replace RG := Lib.hid (RG.out.below b11)
  replace R1 := Lib.hid (R1.out.below b11)
  clear b11
  have hn := below_new (Below.refl w11.heap.size w11) (.cells #[.int .i64 1, .int .i64 1, .string ⟨#[]⟩, .int .i64 0, .int .i64 0, .string ⟨#[]⟩, .int .i64 0, .int .i64 0, .string ⟨#[]⟩] 44)
  replace RC := Lib.hid (RC.out.below hn)
  replace RA := Lib.hid (RA.out.below hn)
  replace RB := Lib.hid (RB.out.below hn)
  replace RG := Lib.hid (RG.out.below hn)
  replace R1 := Lib.hid (R1.out.below hn)
  have R2 := Lib.hid (rdg_new (enc := V3.cells) v3len w11 [alv1, alv0, alv0] #[.int .i64 1, .int .i64 1, .string ⟨#[]⟩, .int .i64 0, .int .i64 0, .string ⟨#[]⟩, .int .i64 0, .int .i64 0, .string ⟨#[]⟩] 44 (n := 3) (g := (w11.heap.size)) rfl rfl (by decide) (by simp))
  have B11' := below_new B11 (.cells #[.int .i64 1, .int .i64 1, .string ⟨#[]⟩, .int .i64 0, .int .i64 0, .string ⟨#[]⟩, .int .i64 0, .int .i64 0, .string ⟨#[]⟩] 44)
  clear hn
  have hm : ∀ x ∈ [alv1, alv0, alv0], x.s.size ≤ 4294967296 := fun x hx => SZ.out x (by simp at hx ⊢; rcases hx with rfl | rfl | rfl <;> simp)
  go_wp2_with fail
  refine ((show Calls _ _ _ _ _ from by have := rowRight_any _ _ _ _ _ _ _ _ _ RC.out R2.out hm; rwa [show rowErr alCols [alv1, alv0, alv0] = 0 by kernel_rfl] at this)).mono ?_
  rintro e w12 ⟨rfl, b12⟩
  have B12 := below_then B11' b12
  replace RC := Lib.hid (RC.out.below b12)
  replace RA := Lib.hid (RA.out.below b12)
  replace RB := Lib.hid (RB.out.below b12)
  replace RG := Lib.hid (RG.out.below b12)
  replace R1 := Lib.hid (R1.out.below b12)
  replace R2 := Lib.hid (R2.out.below b12)
  clear b12
  clear hm
  have hn := below_new (Below.refl w12.heap.size w12) (.cells #[.int .i64 0, .int .i64 0, .string ⟨#[]⟩, .int .i64 0, .int .i64 0, .string ⟨#[]⟩, .int .i64 0, .int .i64 0, .string ⟨#[]⟩] 44)
  replace RC := Lib.hid (RC.out.below hn)
  replace RA := Lib.hid (RA.out.below hn)
  replace RB := Lib.hid (RB.out.below hn)
  replace RG := Lib.hid (RG.out.below hn)
  replace R1 := Lib.hid (R1.out.below hn)
  replace R2 := Lib.hid (R2.out.below hn)
  have R3 := Lib.hid (rdg_new (enc := V3.cells) v3len w12 [alv0, alv0, alv0] #[.int .i64 0, .int .i64 0, .string ⟨#[]⟩, .int .i64 0, .int .i64 0, .string ⟨#[]⟩, .int .i64 0, .int .i64 0, .string ⟨#[]⟩] 44 (n := 3) (g := (w12.heap.size)) rfl rfl (by decide) (by simp))
  have B12' := below_new B12 (.cells #[.int .i64 0, .int .i64 0, .string ⟨#[]⟩, .int .i64 0, .int .i64 0, .string ⟨#[]⟩, .int .i64 0, .int .i64 0, .string ⟨#[]⟩] 44)
  clear hn
  have hm : ∀ x ∈ [alv0, alv0, alv0], x.s.size ≤ 4294967296 := fun x hx => SZ.out x (by simp at hx ⊢; rcases hx with rfl | rfl | rfl <;> simp)
  go_wp2_with fail
  refine ((show Calls _ _ _ _ _ from by have := rowRight_any _ _ _ _ _ _ _ _ _ RC.out R3.out hm; rwa [show rowErr alCols [alv0, alv0, alv0] = 7 by kernel_rfl] at this)).mono ?_
  rintro e w13 ⟨rfl, b13⟩
  have B13 := below_then B12' b13
  replace RC := Lib.hid (RC.out.below b13)
  replace RA := Lib.hid (RA.out.below b13)
  replace RB := Lib.hid (RB.out.below b13)
  replace RG := Lib.hid (RG.out.below b13)
  replace R1 := Lib.hid (R1.out.below b13)
  replace R2 := Lib.hid (R2.out.below b13)
  replace R3 := Lib.hid (R3.out.below b13)
  clear b13
  clear hm
  go_wp2_with fail
  refine (NUM.out 1 _).mono ?_
  rintro e w14 ⟨rfl, b14⟩
  have B14 := below_then B13 b14
  replace RC := Lib.hid (RC.out.below b14)
  replace RA := Lib.hid (RA.out.below b14)
  replace RB := Lib.hid (RB.out.below b14)
  replace RG := Lib.hid (RG.out.below b14)
  replace R1 := Lib.hid (R1.out.below b14)
  replace R2 := Lib.hid (R2.out.below b14)
  replace R3 := Lib.hid (R3.out.below b14)
  clear b14
  go_wp2_with fail
  refine (NUM.out 2 _).mono ?_
  rintro e w15 ⟨rfl, b15⟩
  have B15 := below_then B14 b15
  replace RC := Lib.hid (RC.out.below b15)
  replace RA := Lib.hid (RA.out.below b15)
  replace RB := Lib.hid (RB.out.below b15)
  replace RG := Lib.hid (RG.out.below b15)
  replace R1 := Lib.hid (R1.out.below b15)
  replace R2 := Lib.hid (R2.out.below b15)
  replace R3 := Lib.hid (R3.out.below b15)
  clear b15
  have hn := below_new (Below.refl w15.heap.size w15) (.cells #[.int .i64 1, .int .i64 1, .string ⟨#[]⟩, .int .i64 1, .int .i64 2, .string ⟨#[]⟩, .int .i64 0, .int .i64 0, .string ⟨#[]⟩] 44)
  replace RC := Lib.hid (RC.out.below hn)
  replace RA := Lib.hid (RA.out.below hn)
  replace RB := Lib.hid (RB.out.below hn)
  replace RG := Lib.hid (RG.out.below hn)
  replace R1 := Lib.hid (R1.out.below hn)
  replace R2 := Lib.hid (R2.out.below hn)
  replace R3 := Lib.hid (R3.out.below hn)
  have R4 := Lib.hid (rdg_new (enc := V3.cells) v3len w15 [alv1, alv2, alv0] #[.int .i64 1, .int .i64 1, .string ⟨#[]⟩, .int .i64 1, .int .i64 2, .string ⟨#[]⟩, .int .i64 0, .int .i64 0, .string ⟨#[]⟩] 44 (n := 3) (g := (w15.heap.size)) rfl rfl (by decide) (by simp))
  have B15' := below_new B15 (.cells #[.int .i64 1, .int .i64 1, .string ⟨#[]⟩, .int .i64 1, .int .i64 2, .string ⟨#[]⟩, .int .i64 0, .int .i64 0, .string ⟨#[]⟩] 44)
  clear hn
  have hm : ∀ x ∈ [alv1, alv2, alv0], x.s.size ≤ 4294967296 := fun x hx => SZ.out x (by simp at hx ⊢; rcases hx with rfl | rfl | rfl <;> simp)
  go_wp2_with fail
  refine ((show Calls _ _ _ _ _ from by have := rowRight_any _ _ _ _ _ _ _ _ _ RC.out R4.out hm; rwa [show rowErr alCols [alv1, alv2, alv0] = 6 by kernel_rfl] at this)).mono ?_
  rintro e w16 ⟨rfl, b16⟩
  have B16 := below_then B15' b16
  replace RC := Lib.hid (RC.out.below b16)
  replace RA := Lib.hid (RA.out.below b16)
  replace RB := Lib.hid (RB.out.below b16)
  replace RG := Lib.hid (RG.out.below b16)
  replace R1 := Lib.hid (R1.out.below b16)
  replace R2 := Lib.hid (R2.out.below b16)
  replace R3 := Lib.hid (R3.out.below b16)
  replace R4 := Lib.hid (R4.out.below b16)
  clear b16
  clear hm
  have hm : ∀ x ∈ [alv1, alvx], x.s.size ≤ 4294967296 := fun x hx => SZ.out x (by simp at hx ⊢; rcases hx with rfl | rfl <;> simp)
  go_wp2_with fail
  refine ((show Calls _ _ _ _ _ from by have := rowRight_any _ _ _ _ _ _ _ _ _ RC.out RA.out hm; rwa [show rowErr alCols [alv1, alvx] = 1 by kernel_rfl] at this)).mono ?_
  rintro e w17 ⟨rfl, b17⟩
  have B17 := below_then B16 b17
  replace RC := Lib.hid (RC.out.below b17)
  replace RA := Lib.hid (RA.out.below b17)
  replace RB := Lib.hid (RB.out.below b17)
  replace RG := Lib.hid (RG.out.below b17)
  replace R1 := Lib.hid (R1.out.below b17)
  replace R2 := Lib.hid (R2.out.below b17)
  replace R3 := Lib.hid (R3.out.below b17)
  replace R4 := Lib.hid (R4.out.below b17)
  clear b17
  clear hm
  go_wp2_with fail
  refine ((show Calls _ _ _ _ _ from by have := rowLess_any _ _ _ _ _ _ _ _ _ RA.out RB.out; rwa [show lessR [alv1, alvx] [alv1, alvy] = true by kernel_rfl] at this)).mono ?_
  rintro e w18 ⟨rfl, b18⟩
  have B18 := below_then B17 b18
  replace RC := Lib.hid (RC.out.below b18)
  replace RA := Lib.hid (RA.out.below b18)
  replace RB := Lib.hid (RB.out.below b18)
  replace RG := Lib.hid (RG.out.below b18)
  replace R1 := Lib.hid (R1.out.below b18)
  replace R2 := Lib.hid (R2.out.below b18)
  replace R3 := Lib.hid (R3.out.below b18)
  replace R4 := Lib.hid (R4.out.below b18)
  clear b18
  go_wp2_with fail
  refine ((show Calls _ _ _ _ _ from by have := rowLess_any _ _ _ _ _ _ _ _ _ RB.out RA.out; rwa [show lessR [alv1, alvy] [alv1, alvx] = false by kernel_rfl] at this)).mono ?_
  rintro e w19 ⟨rfl, b19⟩
  have B19 := below_then B18 b19
  replace RC := Lib.hid (RC.out.below b19)
  replace RA := Lib.hid (RA.out.below b19)
  replace RB := Lib.hid (RB.out.below b19)
  replace RG := Lib.hid (RG.out.below b19)
  replace R1 := Lib.hid (R1.out.below b19)
  replace R2 := Lib.hid (R2.out.below b19)
  replace R3 := Lib.hid (R3.out.below b19)
  replace R4 := Lib.hid (R4.out.below b19)
  clear b19
  go_wp2_with fail
  refine ((show Calls _ _ _ _ _ from by have := rowLess_any _ _ _ _ _ _ _ _ _ (RA.out.upto (k := 1) (m := 2) (by decide) (by decide) (by decide)) RA.out; rwa [show lessR (List.take 1 [alv1, alvx]) [alv1, alvx] = true by kernel_rfl] at this)).mono ?_
  rintro e w20 ⟨rfl, b20⟩
  have B20 := below_then B19 b20
  replace RC := Lib.hid (RC.out.below b20)
  replace RA := Lib.hid (RA.out.below b20)
  replace RB := Lib.hid (RB.out.below b20)
  replace RG := Lib.hid (RG.out.below b20)
  replace R1 := Lib.hid (R1.out.below b20)
  replace R2 := Lib.hid (R2.out.below b20)
  replace R3 := Lib.hid (R3.out.below b20)
  replace R4 := Lib.hid (R4.out.below b20)
  clear b20
  go_wp2_with fail
  refine ((show Calls _ _ _ _ _ from by have := rowSame_any _ _ _ _ _ _ _ _ _ RA.out RG.out; rwa [show sameR [alv1, alvx] [alv1, alvx] = true by kernel_rfl] at this)).mono ?_
  rintro e w21 ⟨rfl, b21⟩
  have B21 := below_then B20 b21
  replace RC := Lib.hid (RC.out.below b21)
  replace RA := Lib.hid (RA.out.below b21)
  replace RB := Lib.hid (RB.out.below b21)
  replace RG := Lib.hid (RG.out.below b21)
  replace R1 := Lib.hid (R1.out.below b21)
  replace R2 := Lib.hid (R2.out.below b21)
  replace R3 := Lib.hid (R3.out.below b21)
  replace R4 := Lib.hid (R4.out.below b21)
  clear b21
  go_wp2_with fail
  refine (fresh_len (rowBytes_any _ _ _ _ _ RA.out (by intro v hv; simp at hv; rcases hv with rfl | rfl <;> exact ⟨by decide, by decide, by decide⟩) (by decide)) (m := 6) (by kernel_rfl)).mono ?_
  rintro e w22 ⟨A5, c5, rfl, _, b22⟩
  have B22 := below_then B21 b22
  replace RC := Lib.hid (RC.out.below b22)
  replace RA := Lib.hid (RA.out.below b22)
  replace RB := Lib.hid (RB.out.below b22)
  replace RG := Lib.hid (RG.out.below b22)
  replace R1 := Lib.hid (R1.out.below b22)
  replace R2 := Lib.hid (R2.out.below b22)
  replace R3 := Lib.hid (R3.out.below b22)
  replace R4 := Lib.hid (R4.out.below b22)
  clear b22
  obtain ⟨bc, oc, xc, hxe, _, hxc, hcc⟩ := RC.out.col (k := 2) (by decide)
  injection hxe with hxe
  injection hxe with hx1 hx2
  subst hx1 hx2
  simp only [List.getElem?_cons_zero, List.getElem?_cons_succ, Option.some.injEq] at hxc
  subst hxc
  obtain ⟨k0, k1, k2, k3⟩ := hcc _ (Below.refl _ _)
  simp only [Nat.zero_add, Nat.reduceMul, Nat.reduceAdd] at k0 k1 k2 k3
  clear hcc
  go_wp2_with fail
  refine (kind_any ⟨⟨#[]⟩, 2, 0, false⟩ _).mono ?_
  rintro e w23 ⟨rfl, b23⟩
  have B23 := below_then B22 b23
  replace RC := Lib.hid (RC.out.below b23)
  replace RA := Lib.hid (RA.out.below b23)
  replace RB := Lib.hid (RB.out.below b23)
  replace RG := Lib.hid (RG.out.below b23)
  replace R1 := Lib.hid (R1.out.below b23)
  replace R2 := Lib.hid (R2.out.below b23)
  replace R3 := Lib.hid (R3.out.below b23)
  replace R4 := Lib.hid (R4.out.below b23)
  clear b23
  go_wp2
  go_ret
  exact ⟨rfl, B23⟩
end Go.Proofs.Ytijhcoidhlmecaa
