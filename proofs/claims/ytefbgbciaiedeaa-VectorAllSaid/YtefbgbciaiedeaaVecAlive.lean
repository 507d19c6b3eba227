/- Layer 5: the chapter's examples, as each law asks them. -/
import Derived.Test.YtefbgbciaiedeaaVecIs
namespace Go.Proofs.Ytefbgbciaiedeaa
set_option maxRecDepth 100000
open Go.RowKit

def al6 : List D2 := [⟨1, 2⟩, ⟨3, 1⟩, ⟨3, 2⟩, ⟨3, 3⟩, ⟨3, 4⟩, ⟨3, 5⟩]
theorem al_lacks : lacksV [1, 3] [2, 0, 5] = al6 := by decide
theorem al_join : joinV [2, 0, 5] [1, 3] = [2, 3, 5] := by decide
theorem al_meet : meetV [2, 0, 5] [1, 3] = [1] := by decide
theorem al_set : setV [1, 3] 2 0 = [1] := by decide
theorem al_trim : trimV [0, 1, 0] = [0, 1] := by decide

set_option maxHeartbeats 12800000 in
theorem vecAlive_any (w : World) : Calls Try.prog 12 #[] w fun e w' => e = .returned (.bool true) ∧ Below w.heap.size w w' := by
  have RA : Hid (Rd ((w.alloc (Obj.cells #[.int .i64 2, .int .i64 0, .int .i64 5] 3)).alloc (Obj.cells #[.int .i64 1, .int .i64 3] 3)) (some ⟨w.heap.size, 0, none⟩) 3 3 (vals .i64 [2, 0, 5])) := (rd_new w (vals .i64 [2, 0, 5]) 3 rfl (by decide)).alloc _
  have RB : Hid (Rd ((w.alloc (Obj.cells #[.int .i64 2, .int .i64 0, .int .i64 5] 3)).alloc (Obj.cells #[.int .i64 1, .int .i64 3] 3)) (some ⟨w.heap.size + 1, 0, none⟩) 2 2 (vals .i64 [1, 3])) := rd_at (w.alloc (Obj.cells #[.int .i64 2, .int .i64 0, .int .i64 5] 3)) (vals .i64 [1, 3]) 3 rfl (by decide) (by simp)
  have BW := below_new (below_new (Below.refl w.heap.size w) (Obj.cells #[.int .i64 2, .int .i64 0, .int .i64 5] 3)) (Obj.cells #[.int .i64 1, .int .i64 3] 3)
  go_enter Try.func12, Try.ntmps12
  go_wp2_with fail
  generalize (w.alloc (Obj.cells #[.int .i64 2, .int .i64 0, .int .i64 5] 3)).alloc (Obj.cells #[.int .i64 1, .int .i64 3] 3) = w0 at RA RB BW ⊢
  generalize (some ⟨w.heap.size, 0, none⟩ : Option Addr) = A at RA ⊢
  generalize (some ⟨w.heap.size + 1, 0, none⟩ : Option Addr) = B at RB ⊢
  skip
  refine (vecLacks_is al_lacks (show al6.length = 6 from rfl) (RB.out) (RA.out)).mono ?_
  rintro e w1 ⟨L, c1, rfl, rl, b1⟩
  have B1 := below_then (BW) b1
  replace RA := Lib.hid ((RA.out).below b1)
  replace RB := Lib.hid ((RB.out).below b1)
  have RL := Lib.hid rl
  clear rl
  clear b1
  go_wp2_with fail
  refine (vecJoin_is al_join (show List.length [(2 : Int), 3, 5] = 3 from rfl) (RA.out) (RB.out) (by decide) (by decide)).mono ?_
  rintro e w2 ⟨J, cj, rfl, rj, b2⟩
  have B2 := below_then (B1) b2
  replace RA := Lib.hid ((RA.out).below b2)
  replace RB := Lib.hid ((RB.out).below b2)
  replace RL := Lib.hid ((RL.out).below b2)
  have RJ := Lib.hid rj
  clear rj
  clear B1
  clear b2
  go_wp2_with fail
  refine (refEqual_is (r := true) (by decide) ((RJ.out).alloc _) (rd_at w2 (vals .i64 [2, 3, 5]) 3 rfl (by decide) rfl) (by decide) (by decide)).mono ?_
  rintro e w3 ⟨rfl, hw3⟩
  have b3 := same_below hw3
  clear hw3
  have B3 := below_then (below_new (B2) _) b3
  replace RA := Lib.hid (((RA.out).alloc _).below b3)
  replace RB := Lib.hid (((RB.out).alloc _).below b3)
  replace RL := Lib.hid (((RL.out).alloc _).below b3)
  clear RJ
  clear B2
  clear b3
  go_wp2_with fail
  refine (vecMeet_is al_meet (show List.length [(1 : Int)] = 1 from rfl) (RA.out) (RB.out) (by decide) (by decide)).mono ?_
  rintro e w4 ⟨J, cj, rfl, rj, b4⟩
  have B4 := below_then (B3) b4
  replace RA := Lib.hid ((RA.out).below b4)
  replace RB := Lib.hid ((RB.out).below b4)
  replace RL := Lib.hid ((RL.out).below b4)
  have RJ := Lib.hid rj
  clear rj
  clear B3
  clear b4
  go_wp2_with fail
  refine (refEqual_is (r := true) (by decide) ((RJ.out).alloc _) (rd_at w4 (vals .i64 [1]) 3 rfl (by decide) rfl) (by decide) (by decide)).mono ?_
  rintro e w5 ⟨rfl, hw5⟩
  have b5 := same_below hw5
  clear hw5
  have B5 := below_then (below_new (B4) _) b5
  replace RA := Lib.hid (((RA.out).alloc _).below b5)
  replace RB := Lib.hid (((RB.out).alloc _).below b5)
  replace RL := Lib.hid (((RL.out).alloc _).below b5)
  clear RJ
  clear B4
  clear b5
  obtain ⟨bl, ol, x0, rfl, hbl, hx0, hc0⟩ := RL.out.dot (k := 0) (by decide)
  obtain ⟨bl', ol', x5, hL, _, hx5, hc5⟩ := RL.out.dot (k := 5) (by decide)
  injection hL with hL
  injection hL with e1 e2
  subst e1 e2
  obtain rfl : x0 = ⟨1, 2⟩ := by simpa [al6] using hx0.symm
  obtain rfl : x5 = ⟨3, 5⟩ := by simpa [al6] using hx5.symm
  obtain ⟨d0, d1⟩ := hc0 _ (Below.refl _ _)
  obtain ⟨d2, d3⟩ := hc5 _ (Below.refl _ _)
  simp only [Nat.zero_mul, Nat.add_zero] at d0 d1
  rw [show ol + 5 * 2 = ol + 10 by omega] at d2
  rw [show ol + 5 * 2 + 1 = ol + 11 by omega] at d3
  clear hc0 hc5 hx0 hx5 hbl
  have EQ0 : ∀ W : World, (Op.equalIn 10000 25 (.agg #[.int .i64 1, .int .i64 2]) (.agg #[.int .i64 1, .int .i64 2])).run Try.prog W = .ok true W := fun W => run_equalIn_dot 1 2 1 2 W
  have EQ5 : ∀ W : World, (Op.equalIn 10000 25 (.agg #[.int .i64 3, .int .i64 5]) (.agg #[.int .i64 3, .int .i64 5])).run Try.prog W = .ok true W := fun W => run_equalIn_dot 3 5 3 5 W
  go_wp2_with fail
  refine (is_bool (r := true) (by decide) (vecHas_any _ 3 3 [2, 0, 5] 3 5 _ (RA.out))).mono ?_
  rintro e w6 ⟨rfl, b6⟩
  have B6 := below_then (B5) b6
  replace RA := Lib.hid ((RA.out).below b6)
  replace RB := Lib.hid ((RB.out).below b6)
  clear RL
  clear B5
  clear b6
  clear d0 d1 d2 d3 EQ0 EQ5
  go_wp2_with fail
  refine (is_bool (r := false) (by decide) (vecHas_any _ 3 3 [2, 0, 5] 2 1 _ (RA.out))).mono ?_
  rintro e w7 ⟨rfl, b7⟩
  have B7 := below_then (B6) b7
  replace RA := Lib.hid ((RA.out).below b7)
  replace RB := Lib.hid ((RB.out).below b7)
  clear B6
  clear b7
  go_wp2_with fail
  refine (is_bool (r := true) (by decide) (vecSame_any _ _ 3 4 3 4 [2, 0, 5] [2, 0, 5, 0] _ ((RA.out).alloc _) (rd_at w7 (vals .i64 [2, 0, 5, 0]) 3 rfl (by decide) rfl))).mono ?_
  rintro e w8 ⟨rfl, hw8⟩
  have b8 := same_below hw8
  clear hw8
  have B8 := below_then (below_new (B7) _) b8
  replace RA := Lib.hid (((RA.out).alloc _).below b8)
  replace RB := Lib.hid (((RB.out).alloc _).below b8)
  clear B7
  clear b8
  go_wp2_with fail
  refine (is_bool (r := false) (by decide) (vecUpto_any _ _ 3 2 3 2 [2, 0, 5] [1, 3] _ (RA.out) (RB.out))).mono ?_
  rintro e w9 ⟨rfl, hw9⟩
  have b9 := same_below hw9
  clear hw9
  have B9 := below_then (B8) b9
  replace RA := Lib.hid ((RA.out).below b9)
  replace RB := Lib.hid ((RB.out).below b9)
  clear B8
  clear b9
  go_wp2_with fail
  refine (vecJoin_is al_join (show List.length [(2 : Int), 3, 5] = 3 from rfl) (RA.out) (RB.out) (by decide) (by decide)).mono ?_
  rintro e w10 ⟨J, cj, rfl, rj, b10⟩
  have B10 := below_then (B9) b10
  replace RA := Lib.hid ((RA.out).below b10)
  replace RB := Lib.hid ((RB.out).below b10)
  have RJ := Lib.hid rj
  clear rj
  clear B9
  clear b10
  go_wp2_with fail
  refine (is_bool (r := true) (by decide) (vecUpto_any _ _ 2 3 2 _ [1, 3] [2, 3, 5] _ (RB.out) (RJ.out))).mono ?_
  rintro e w11 ⟨rfl, hw11⟩
  have b11 := same_below hw11
  clear hw11
  have B11 := below_then (B10) b11
  replace RA := Lib.hid ((RA.out).below b11)
  replace RB := Lib.hid ((RB.out).below b11)
  clear RJ
  clear B10
  clear b11
  go_wp2_with fail
  refine (is_int (r := 5) (by decide) (vecOf_any _ 3 3 [2, 0, 5] 3 _ (RA.out))).mono ?_
  rintro e w12 ⟨rfl, hw12⟩
  have b12 := same_below hw12
  clear hw12
  have B12 := below_then (B11) b12
  replace RA := Lib.hid ((RA.out).below b12)
  replace RB := Lib.hid ((RB.out).below b12)
  clear B11
  clear b12
  go_wp2_with fail
  refine (is_int (r := 0) (by decide) (vecOf_any _ 3 3 [2, 0, 5] 9 _ (RA.out))).mono ?_
  rintro e w13 ⟨rfl, hw13⟩
  have b13 := same_below hw13
  clear hw13
  have B13 := below_then (B12) b13
  replace RA := Lib.hid ((RA.out).below b13)
  replace RB := Lib.hid ((RB.out).below b13)
  clear B12
  clear b13
  go_wp2_with fail
  refine (is_bool (r := true) (by decide) (vecRight_any _ 3 3 [2, 0, 5] _ (RA.out))).mono ?_
  rintro e w14 ⟨rfl, hw14⟩
  have b14 := same_below hw14
  clear hw14
  have B14 := below_then (B13) b14
  replace RB := Lib.hid ((RB.out).below b14)
  clear RA
  clear B13
  clear b14
  go_wp2_with fail
  refine (is_bool (r := false) (by decide) (vecRight_any _ 1 1 [-1] _ (rd_at w14 (vals .i64 [-1]) 3 rfl (by decide) rfl))).mono ?_
  rintro e w15 ⟨rfl, hw15⟩
  have b15 := same_below hw15
  clear hw15
  have B15 := below_then (below_new (B14) _) b15
  replace RB := Lib.hid (((RB.out).alloc _).below b15)
  clear B14
  clear b15
  go_wp2_with fail
  refine (vecSet_is al_set (show List.length [(1 : Int)] = 1 from rfl) (RB.out) (by decide)).mono ?_
  rintro e w16 ⟨J, cj, rfl, rj, b16⟩
  have B16 := below_then (B15) b16
  clear RB
  have RJ := Lib.hid rj
  clear rj
  clear B15
  clear b16
  go_wp2_with fail
  refine (refEqual_is (r := true) (by decide) ((RJ.out).alloc _) (rd_at w16 (vals .i64 [1]) 3 rfl (by decide) rfl) (by decide) (by decide)).mono ?_
  rintro e w17 ⟨rfl, hw17⟩
  have b17 := same_below hw17
  clear hw17
  have B17 := below_then (below_new (B16) _) b17
  clear RJ
  clear B16
  clear b17
  go_wp2_with fail
  refine (vecTrim_is al_trim (show List.length [(0 : Int), 1] = 2 from rfl) (rd_at w17 (vals .i64 [0, 1, 0]) 3 rfl (by decide) rfl) (by decide)).mono ?_
  rintro e w18 ⟨J, cj, rfl, rj, b18⟩
  have B18 := below_then (below_new (B17) _) b18
  have RJ := Lib.hid rj
  clear rj
  clear B17
  clear b18
  go_wp2_with fail
  refine (refEqual_is (r := true) (by decide) ((RJ.out).alloc _) (rd_at w18 (vals .i64 [0, 1]) 3 rfl (by decide) rfl) (by decide) (by decide)).mono ?_
  rintro e w19 ⟨rfl, hw19⟩
  have b19 := same_below hw19
  clear hw19
  have B19 := below_then (below_new (B18) _) b19
  clear RJ
  clear B18
  clear b19
  go_wp2
  go_ret
  exact ⟨rfl, B19⟩
end Go.Proofs.Ytefbgbciaiedeaa
