/- Layer 12: the chapter's examples stand. -/
import Derived.Test.YtkpkkkmokgmhfaaExpEx
namespace Go.Proofs.Ytkpkkkmokgmhfaa
set_option maxRecDepth 100000
open Go.RowKit Go.MapKept

set_option maxHeartbeats 25600000 in
theorem awake12_any (w : World) : Calls Try.prog 7 #[] w fun e w' => e = .returned (.bool true) ∧ Below w.heap.size w w' := by
  have HB0 := Lib.hid (Below.refl w.heap.size w)
  go_enter Try.func7, Try.ntmps7
  go_wp2_with fail
  refine (num_any 5 _).mono ?_
  rintro r1 w1x ⟨rfl, b1x⟩
  have HB1 := Lib.hid (below_then HB0.out b1x)
  clear b1x
  go_wp2_with fail
  refine (of_any 6 (leafE 0 0 v0) (numE 5) _ (ReadsE.none_ _ _ _ _) (ReadsE.none_ _ _ _ _)).mono ?_
  rintro r2 w2x ⟨A1, rfl, hRL, b2x⟩
  have HB2 := Lib.hid (below_then HB1.out b2x)
  clear b2x
  have RL := Lib.hid hRL
  clear hRL
  obtain ⟨w3x, hw3x⟩ : ∃ V, V = w2x.alloc (exprBox (twoE 6 A1 (leafE 0 0 v0) (numE 5))) := ⟨_, rfl⟩
  have Hw3x := Lib.hid hw3x
  have b3x : Below w2x.heap.size w2x w3x := by rw [hw3x]; exact below_new (Below.refl _ _) _
  have R1 : Hid (w3x.heap[w2x.heap.size]? = some (exprBox (twoE 6 A1 (leafE 0 0 v0) (numE 5)))) := by rw [hw3x]; exact heap_alloc_new _ _
  replace RL := Lib.hid (RL.out.keep b3x)
  have HB3 := Lib.hid (below_then HB2.out b3x)
  clear b3x hw3x
  go_upto_region 2 with fail
  rw [show w2x.alloc (exprBox (twoE 6 A1 (leafE 0 0 v0) (numE 5))) = w3x from Hw3x.out.symm]
  clear Hw3x
  generalize w2x.heap.size = gR1 at R1 ⊢
  obtain ⟨q0_0, q0_1, q0_2, q0_3, q0_4, q0_5⟩ := expr_row R1.out
  try dsimp only at q0_0 q0_1 q0_2 q0_3 q0_4 q0_5
  obtain ⟨wrR2, hwrR2⟩ : ∃ V, V = w3x.alloc (valBox (numV 3)) := ⟨_, rfl⟩
  have HWrR2 := Lib.hid hwrR2
  have brR2 : Below w3x.heap.size w3x wrR2 := by rw [hwrR2]; exact below_new (Below.refl _ _) _
  have RDR2 : Hid (RdV wrR2 (some ⟨w3x.heap.size, 0, none⟩) 1 1 [(numV 3)]) := by rw [hwrR2]; exact rdV_one (heap_alloc_new _ _)
  replace R1 := Lib.hid (row_below R1.out brR2)
  replace RL := Lib.hid (RL.out.keep brR2)
  have HB4 := Lib.hid (below_then HB3.out brR2)
  have CR2 : Hid (Calls Try.prog 11 #[(twoE 6 A1 (leafE 0 0 v0) (numE 5)).agg, .slice (some ⟨w3x.heap.size, 0, none⟩) 1 1] (w3x.alloc (valBox (numV 3))) fun r w' => r = .returned (.tuple #[.agg #[.int .i64 1, .int .i64 1, .string ⟨#[]⟩], .int .i64 0]) ∧ Below (w3x.alloc (valBox (numV 3))).heap.size (w3x.alloc (valBox (numV 3))) w') := by rw [← HWrR2.out]; exact eval_is RL.out RDR2.out (by intro z hz; obtain rfl := List.mem_singleton.1 hz; exact may_n 3 (by decide)) (v := numV 1) (ex_a A1 3)
  rw [HWrR2.out] at R1 RL HB4
  clear hwrR2 HWrR2 brR2 RDR2
  go_wp2_with fail
  refine (CR2.out).mono ?_
  rintro r5 w5x ⟨rfl, b5x⟩
  replace R1 := Lib.hid (row_below R1.out b5x)
  replace RL := Lib.hid (RL.out.keep b5x)
  have HB5 := Lib.hid (below_then HB4.out b5x)
  clear b5x
  clear CR2
  clear q0_0 q0_1 q0_2 q0_3 q0_4 q0_5
  obtain ⟨w6x, hw6x⟩ : ∃ V, V = w5x.alloc (.cells #[.int .i64 1, .int .i64 1, .string ⟨#[]⟩] 23) := ⟨_, rfl⟩
  have Hw6x := Lib.hid hw6x
  have b6x : Below w5x.heap.size w5x w6x := by rw [hw6x]; exact below_new (Below.refl _ _) _
  have R2 : Hid (w6x.heap[w5x.heap.size]? = some (.cells #[.int .i64 1, .int .i64 1, .string ⟨#[]⟩] 23)) := by rw [hw6x]; exact heap_alloc_new _ _
  replace R1 := Lib.hid (row_below R1.out b6x)
  replace RL := Lib.hid (RL.out.keep b6x)
  have HB6 := Lib.hid (below_then HB5.out b6x)
  clear b6x hw6x
  go_upto_region 3 with fail
  rw [show w5x.alloc (.cells #[.int .i64 1, .int .i64 1, .string ⟨#[]⟩] 23) = w6x from Hw6x.out.symm]
  clear Hw6x
  generalize w5x.heap.size = gR2 at R2 ⊢
  obtain ⟨q0_0, q0_1, q0_2, q0_3, q0_4, q0_5⟩ := expr_row R1.out
  try dsimp only at q0_0 q0_1 q0_2 q0_3 q0_4 q0_5
  obtain ⟨wrR4, hwrR4⟩ : ∃ V, V = w6x.alloc (valBox v0) := ⟨_, rfl⟩
  have HWrR4 := Lib.hid hwrR4
  have brR4 : Below w6x.heap.size w6x wrR4 := by rw [hwrR4]; exact below_new (Below.refl _ _) _
  have RDR4 : Hid (RdV wrR4 (some ⟨w6x.heap.size, 0, none⟩) 1 1 [v0]) := by rw [hwrR4]; exact rdV_one (heap_alloc_new _ _)
  replace R1 := Lib.hid (row_below R1.out brR4)
  replace R2 := Lib.hid (row_below R2.out brR4)
  replace RL := Lib.hid (RL.out.keep brR4)
  have HB7 := Lib.hid (below_then HB6.out brR4)
  have CR4 : Hid (Calls Try.prog 11 #[(twoE 6 A1 (leafE 0 0 v0) (numE 5)).agg, .slice (some ⟨w6x.heap.size, 0, none⟩) 1 1] (w6x.alloc (valBox v0)) fun r w' => r = .returned (.tuple #[.agg #[.int .i64 0, .int .i64 0, .string ⟨#[]⟩], .int .i64 0]) ∧ Below (w6x.alloc (valBox v0)).heap.size (w6x.alloc (valBox v0)) w') := by rw [← HWrR4.out]; exact eval_is RL.out RDR4.out (by intro z hz; obtain rfl := List.mem_singleton.1 hz; exact may_v0) (v := v0) (ex_b A1)
  rw [HWrR4.out] at R1 R2 RL HB7
  clear hwrR4 HWrR4 brR4 RDR4
  go_wp2_with fail
  refine (CR4.out).mono ?_
  rintro r8 w8x ⟨rfl, b8x⟩
  replace R1 := Lib.hid (row_below R1.out b8x)
  replace R2 := Lib.hid (row_below R2.out b8x)
  replace RL := Lib.hid (RL.out.keep b8x)
  have HB8 := Lib.hid (below_then HB7.out b8x)
  clear b8x
  clear CR4
  clear q0_0 q0_1 q0_2 q0_3 q0_4 q0_5
  obtain ⟨w9x, hw9x⟩ : ∃ V, V = w8x.alloc (.cells #[.int .i64 0, .int .i64 0, .string ⟨#[]⟩] 23) := ⟨_, rfl⟩
  have Hw9x := Lib.hid hw9x
  have b9x : Below w8x.heap.size w8x w9x := by rw [hw9x]; exact below_new (Below.refl _ _) _
  have R4 : Hid (w9x.heap[w8x.heap.size]? = some (.cells #[.int .i64 0, .int .i64 0, .string ⟨#[]⟩] 23)) := by rw [hw9x]; exact heap_alloc_new _ _
  replace R1 := Lib.hid (row_below R1.out b9x)
  replace R2 := Lib.hid (row_below R2.out b9x)
  replace RL := Lib.hid (RL.out.keep b9x)
  have HB9 := Lib.hid (below_then HB8.out b9x)
  clear b9x hw9x
  go_upto_region 4 with fail
  rw [show w8x.alloc (.cells #[.int .i64 0, .int .i64 0, .string ⟨#[]⟩] 23) = w9x from Hw9x.out.symm]
  clear Hw9x
  generalize w8x.heap.size = gR4 at R4 ⊢
  go_wp2_with fail
  refine (num_any 0 _).mono ?_
  rintro r10 w10x ⟨rfl, b10x⟩
  replace R1 := Lib.hid (row_below R1.out b10x)
  replace R2 := Lib.hid (row_below R2.out b10x)
  replace R4 := Lib.hid (row_below R4.out b10x)
  replace RL := Lib.hid (RL.out.keep b10x)
  have HB10 := Lib.hid (below_then HB9.out b10x)
  clear b10x
  go_wp2_with fail
  refine (of_any 7 (leafE 1 0 v0) (numE 0) _ (ReadsE.none_ _ _ _ _) (ReadsE.none_ _ _ _ _)).mono ?_
  rintro r11 w11x ⟨A2, rfl, hR2, b11x⟩
  replace R1 := Lib.hid (row_below R1.out b11x)
  replace R2 := Lib.hid (row_below R2.out b11x)
  replace R4 := Lib.hid (row_below R4.out b11x)
  replace RL := Lib.hid (RL.out.keep b11x)
  have HB11 := Lib.hid (below_then HB10.out b11x)
  clear b11x
  have RC := Lib.hid hR2
  clear hR2
  go_wp2_with fail
  refine (eval_is RC.out (RdG.nil_ _) (by intro z hz; cases hz) (v := numV 0) (ex_c A2)).mono ?_
  rintro r12 w12x ⟨rfl, b12x⟩
  replace R1 := Lib.hid (row_below R1.out b12x)
  replace R2 := Lib.hid (row_below R2.out b12x)
  replace R4 := Lib.hid (row_below R4.out b12x)
  replace RL := Lib.hid (RL.out.keep b12x)
  have HB12 := Lib.hid (below_then HB11.out b12x)
  clear b12x
  clear RC
  obtain ⟨w13x, hw13x⟩ : ∃ V, V = w12x.alloc (.cells #[.int .i64 1, .int .i64 0, .string ⟨#[]⟩] 23) := ⟨_, rfl⟩
  have Hw13x := Lib.hid hw13x
  have b13x : Below w12x.heap.size w12x w13x := by rw [hw13x]; exact below_new (Below.refl _ _) _
  have R6 : Hid (w13x.heap[w12x.heap.size]? = some (.cells #[.int .i64 1, .int .i64 0, .string ⟨#[]⟩] 23)) := by rw [hw13x]; exact heap_alloc_new _ _
  replace R1 := Lib.hid (row_below R1.out b13x)
  replace R2 := Lib.hid (row_below R2.out b13x)
  replace R4 := Lib.hid (row_below R4.out b13x)
  replace RL := Lib.hid (RL.out.keep b13x)
  have HB13 := Lib.hid (below_then HB12.out b13x)
  clear b13x hw13x
  go_upto_region 5 with fail
  rw [show w12x.alloc (.cells #[.int .i64 1, .int .i64 0, .string ⟨#[]⟩] 23) = w13x from Hw13x.out.symm]
  clear Hw13x
  generalize w12x.heap.size = gR6 at R6 ⊢
  go_wp2_with fail
  refine (num_any 1099511627776 _).mono ?_
  rintro r14 w14x ⟨rfl, b14x⟩
  replace R1 := Lib.hid (row_below R1.out b14x)
  replace R2 := Lib.hid (row_below R2.out b14x)
  replace R4 := Lib.hid (row_below R4.out b14x)
  replace R6 := Lib.hid (row_below R6.out b14x)
  replace RL := Lib.hid (RL.out.keep b14x)
  have HB14 := Lib.hid (below_then HB13.out b14x)
  clear b14x
  go_wp2_with fail
  refine (num_any 1 _).mono ?_
  rintro r15 w15x ⟨rfl, b15x⟩
  replace R1 := Lib.hid (row_below R1.out b15x)
  replace R2 := Lib.hid (row_below R2.out b15x)
  replace R4 := Lib.hid (row_below R4.out b15x)
  replace R6 := Lib.hid (row_below R6.out b15x)
  replace RL := Lib.hid (RL.out.keep b15x)
  have HB15 := Lib.hid (below_then HB14.out b15x)
  clear b15x
  go_wp2_with fail
  refine (of_any 2 (numE 1099511627776) (numE 1) _ (ReadsE.none_ _ _ _ _) (ReadsE.none_ _ _ _ _)).mono ?_
  rintro r16 w16x ⟨A3, rfl, hR3, b16x⟩
  replace R1 := Lib.hid (row_below R1.out b16x)
  replace R2 := Lib.hid (row_below R2.out b16x)
  replace R4 := Lib.hid (row_below R4.out b16x)
  replace R6 := Lib.hid (row_below R6.out b16x)
  replace RL := Lib.hid (RL.out.keep b16x)
  have HB16 := Lib.hid (below_then HB15.out b16x)
  clear b16x
  have RC := Lib.hid hR3
  clear hR3
  go_wp2_with fail
  refine (eval_is RC.out (RdG.nil_ _) (by intro z hz; cases hz) (v := v0) (ex_d A3)).mono ?_
  rintro r17 w17x ⟨rfl, b17x⟩
  replace R1 := Lib.hid (row_below R1.out b17x)
  replace R2 := Lib.hid (row_below R2.out b17x)
  replace R4 := Lib.hid (row_below R4.out b17x)
  replace R6 := Lib.hid (row_below R6.out b17x)
  replace RL := Lib.hid (RL.out.keep b17x)
  have HB17 := Lib.hid (below_then HB16.out b17x)
  clear b17x
  clear RC
  obtain ⟨w18x, hw18x⟩ : ∃ V, V = w17x.alloc (.cells #[.int .i64 0, .int .i64 0, .string ⟨#[]⟩] 23) := ⟨_, rfl⟩
  have Hw18x := Lib.hid hw18x
  have b18x : Below w17x.heap.size w17x w18x := by rw [hw18x]; exact below_new (Below.refl _ _) _
  have R8 : Hid (w18x.heap[w17x.heap.size]? = some (.cells #[.int .i64 0, .int .i64 0, .string ⟨#[]⟩] 23)) := by rw [hw18x]; exact heap_alloc_new _ _
  replace R1 := Lib.hid (row_below R1.out b18x)
  replace R2 := Lib.hid (row_below R2.out b18x)
  replace R4 := Lib.hid (row_below R4.out b18x)
  replace R6 := Lib.hid (row_below R6.out b18x)
  replace RL := Lib.hid (RL.out.keep b18x)
  have HB18 := Lib.hid (below_then HB17.out b18x)
  clear b18x hw18x
  go_upto_region 6 with fail
  rw [show w17x.alloc (.cells #[.int .i64 0, .int .i64 0, .string ⟨#[]⟩] 23) = w18x from Hw18x.out.symm]
  clear Hw18x
  generalize w17x.heap.size = gR8 at R8 ⊢
  obtain ⟨q0_0, q0_1, q0_2, q0_3, q0_4, q0_5⟩ := expr_row R1.out
  try dsimp only at q0_0 q0_1 q0_2 q0_3 q0_4 q0_5
  obtain ⟨wt, hwt⟩ : ∃ V, V = w18x.alloc (.cells #[.int .i64 1] 3) := ⟨_, rfl⟩
  have HWT := Lib.hid hwt
  have bt : Below w18x.heap.size w18x wt := by rw [hwt]; exact below_new (Below.refl _ _) _
  have RDT : Hid (Rd wt (some ⟨w18x.heap.size, 0, none⟩) 1 1 (vals .i64 [1])) := by rw [hwt]; exact rdI_one (heap_alloc_new _ _)
  replace R1 := Lib.hid (row_below R1.out bt)
  replace R2 := Lib.hid (row_below R2.out bt)
  replace R4 := Lib.hid (row_below R4.out bt)
  replace R6 := Lib.hid (row_below R6.out bt)
  replace R8 := Lib.hid (row_below R8.out bt)
  replace RL := Lib.hid (RL.out.keep bt)
  have HB19 := Lib.hid (below_then HB18.out bt)
  have CT : Hid (Calls Try.prog 17 #[(twoE 6 A1 (leafE 0 0 v0) (numE 5)).agg, .slice (some ⟨w18x.heap.size, 0, none⟩) 1 1] (w18x.alloc (.cells #[.int .i64 1] 3)) fun r w' => r = .returned (.tuple #[.int .i64 1, .int .i64 0]) ∧ Below (w18x.alloc (.cells #[.int .i64 1] 3)).heap.size (w18x.alloc (.cells #[.int .i64 1] 3)) w') := by
    rw [← HWT.out]
    have := type_any (twoE 6 A1 (leafE 0 0 v0) (numE 5)) _ 1 1 [1] wt RL.out RDT.out
    rw [ex_t] at this; exact this
  rw [HWT.out] at R1 R2 R4 R6 R8 RL HB19
  clear hwt HWT bt RDT
  go_wp2_with fail
  refine (CT.out).mono ?_
  rintro r20 w20x ⟨rfl, b20x⟩
  replace R1 := Lib.hid (row_below R1.out b20x)
  replace R2 := Lib.hid (row_below R2.out b20x)
  replace R4 := Lib.hid (row_below R4.out b20x)
  replace R6 := Lib.hid (row_below R6.out b20x)
  replace R8 := Lib.hid (row_below R8.out b20x)
  replace RL := Lib.hid (RL.out.keep b20x)
  have HB20 := Lib.hid (below_then HB19.out b20x)
  clear b20x
  clear CT
  clear q0_0 q0_1 q0_2 q0_3 q0_4 q0_5
  obtain ⟨q0_0, q0_1, q0_2, q0_3, q0_4, q0_5⟩ := expr_row R1.out
  try dsimp only at q0_0 q0_1 q0_2 q0_3 q0_4 q0_5
  go_upto_region 7 with fail
  obtain ⟨wt, hwt⟩ : ∃ V, V = w20x.alloc (valBox (numV 4)) := ⟨_, rfl⟩
  have HWT := Lib.hid hwt
  have bt : Below w20x.heap.size w20x wt := by rw [hwt]; exact below_new (Below.refl _ _) _
  have RDT : Hid (RdV wt (some ⟨w20x.heap.size, 0, none⟩) 1 1 [numV 4]) := by rw [hwt]; exact rdV_one (heap_alloc_new _ _)
  replace R1 := Lib.hid (row_below R1.out bt)
  replace R2 := Lib.hid (row_below R2.out bt)
  replace R4 := Lib.hid (row_below R4.out bt)
  replace R6 := Lib.hid (row_below R6.out bt)
  replace R8 := Lib.hid (row_below R8.out bt)
  replace RL := Lib.hid (RL.out.keep bt)
  have HB21 := Lib.hid (below_then HB20.out bt)
  have CT : Hid (Calls Try.prog 13 #[(twoE 6 A1 (leafE 0 0 v0) (numE 5)).agg, .slice (some ⟨w20x.heap.size, 0, none⟩) 1 1] (w20x.alloc (valBox (numV 4))) fun r w' => r = .returned (.tuple #[.bool true, .int .i64 0]) ∧ Below (w20x.alloc (valBox (numV 4))).heap.size (w20x.alloc (valBox (numV 4))) w') := by
    rw [← HWT.out]
    have := holds_any (twoE 6 A1 (leafE 0 0 v0) (numE 5)) _ 1 1 [numV 4] wt RL.out RDT.out (by intro z hz; obtain rfl := List.mem_singleton.1 hz; exact may_n 4 (by decide))
    rw [ex_a] at this; exact this
  rw [HWT.out] at R1 R2 R4 R6 R8 RL HB21
  clear hwt HWT bt RDT
  go_wp2_with fail
  refine (CT.out).mono ?_
  rintro r22 w22x ⟨rfl, b22x⟩
  replace R1 := Lib.hid (row_below R1.out b22x)
  replace R2 := Lib.hid (row_below R2.out b22x)
  replace R4 := Lib.hid (row_below R4.out b22x)
  replace R6 := Lib.hid (row_below R6.out b22x)
  replace R8 := Lib.hid (row_below R8.out b22x)
  replace RL := Lib.hid (RL.out.keep b22x)
  have HB22 := Lib.hid (below_then HB21.out b22x)
  clear b22x
  clear CT
  clear q0_0 q0_1 q0_2 q0_3 q0_4 q0_5
  obtain ⟨a0, a1, a2⟩ := valB_row (v := numV 1) R2.out
  obtain ⟨b0, b1, b2⟩ := valB_row (v := v0) R4.out
  obtain ⟨c0, c1, c2⟩ := valB_row (v := numV 0) R6.out
  go_upto_region 8 with fail
  have EQ1 := fun W => run_eqV (numV 1) (numV 1) W
  have EQ2 := fun W => run_eqV v0 v0 W
  have EQ3 := fun W => run_eqV (numV 0) (numV 0) W
  rw [decide_eq_true rfl] at EQ1 EQ2 EQ3
  obtain ⟨wt, hwt⟩ : ∃ V, V = (w22x.alloc (valBox v0)).alloc (.cells #[.int .i64 2] 3) := ⟨_, rfl⟩
  have bt : Below w22x.heap.size w22x wt := by rw [hwt]; exact below_new (below_new (Below.refl _ _) _) _
  have RDV : RdV wt (some ⟨w22x.heap.size, 0, none⟩) 1 1 [v0] := by rw [hwt]; exact rdV_one (old_row _ (heap_alloc_new _ _))
  have RDI : Rd wt (some ⟨w22x.heap.size + 1, 0, none⟩) 1 1 (vals .i64 [2]) := by rw [hwt]; exact rdI_one (new_row _ _ (by simp only [World.size_alloc]))
  have CT := Lib.hid (fits_any _ _ 1 1 1 1 [v0] [2] wt RDV RDI)
  rw [show fitsB [v0] [2] = true from by decide] at CT
  have HBF := Lib.hid (below_then HB22.out bt)
  rw [hwt] at CT HBF
  clear hwt bt RDV RDI
  go_wp2_with fail
  refine CT.out.mono ?_
  rintro r9 w9 ⟨rfl, b9⟩
  have HB9 := Lib.hid (below_then HBF.out b9)
  clear b9 CT
  go_wp2_with fail
  go_ret
  exact ⟨rfl, HB9.out⟩
end Go.Proofs.Ytkpkkkmokgmhfaa
