/- Layer 11: the laws' examples: alive. Written by schalive.py. -/
import Derived.Test.YtogfnjlhfbpneaaSchSome
import Derived.Test.YtogfnjlhfbpneaaTail
namespace Go.Proofs.Ytogfnjlhfbpneaa
set_option maxRecDepth 100000
open Go.RowKit

/-- the table b, its unique column another one; its foreign key to a table that isn't there -/
def tX (b1 b2 b3 : Option Addr) : T6 := ⟨⟨#[98]⟩, b1, 3, 3, [idC, nC, cC], b2, 1, 1, [2], none, 0, 0, b3, 1, 1, [⟨1, 0, 2⟩], none, 0, 0, []⟩
def tY (b1 b2 b3 : Option Addr) : T6 := ⟨⟨#[98]⟩, b1, 3, 3, [idC, nC, cC], b2, 1, 1, [1], none, 0, 0, b3, 1, 1, [⟨1, 2, 0⟩], none, 0, 0, []⟩
section
variable (a1 a2 b1 b2 b3 : Option Addr)
theorem al_right : rightE [tA a1 a2, tB b1 b2 b3] = 0 := by kernel_rfl
theorem al_twice : rightE [tA a1 a2, tA a1 a2] = 5 := by kernel_rfl
theorem al_x : rightE [tA a1 a2, tX b1 b2 b3] = 6 := by kernel_rfl
theorem al_y : rightE [tA a1 a2, tY b1 b2 b3] = 4 := by kernel_rfl
theorem al_none : rightE [] = 2 := by kernel_rfl
theorem al_table : tableP [tA a1 a2, tB b1 b2 b3] ⟨#[98]⟩ = some 1 := by kernel_rfl
theorem al_column : columnP (tB b1 b2 b3).cols ⟨#[99]⟩ = some 2 := by kernel_rfl
theorem al_for1 : foreignP (tB b1 b2 b3).fks 1 = some 0 := by kernel_rfl
theorem al_for2 : foreignP (tB b1 b2 b3).fks 2 = none := by kernel_rfl
theorem al_kids : kidsL [tA a1 a2, tB b1 b2 b3] 0 = [(1, 0)] := by kernel_rfl
end
theorem al_name1 : nameZ ⟨#[97, 95, 49]⟩ = true := by kernel_rfl
theorem al_name2 : nameZ ⟨#[49, 97]⟩ = false := by kernel_rfl
theorem right11_is (A : Option Addr) (n c : Nat) (l : List T6) (r : Int) (w : World) (h : RdS w A n c l) (hr : rightE l = r) :
    Calls Try.prog 14 #[.agg #[.slice A n c]] w fun e w' => e = .returned (.int .i64 r) ∧ Below w.heap.size w w' := by
  rw [← hr]; exact right11_any A n c l w h
theorem right_two (t u : T6) (W : World) (Z : Array Value) (r : Int) (hZ : t.cells ++ u.cells = Z.toList) (ht : t.Reads W) (hu : u.Reads W) (hr : rightE [t, u] = r) :
    Calls Try.prog 14 #[.agg #[.slice (some ⟨W.heap.size, 0, none⟩) 2 2]] (W.alloc (.cells Z 39)) fun e w' => e = .returned (.int .i64 r) ∧ Below (W.alloc (.cells Z 39)).heap.size (W.alloc (.cells Z 39)) w' := by
  have B := below_new (Below.refl W.heap.size W) (.cells Z 39)
  refine right11_is _ 2 2 [t, u] r _ ⟨rdg_new t6len W [t, u] Z _ (by rw [← hZ]; simp) rfl (by decide) rfl, fun x hx => ?_⟩ hr
  rcases List.mem_cons.1 hx with rfl | hx
  · exact ht.below B
  · obtain rfl := List.mem_singleton.1 hx
    exact hu.below B

set_option maxHeartbeats 12800000 in
theorem alive11_any (w : World) : Calls Try.prog 10 #[] w fun e w' => e = .returned (.bool true) ∧ Below w.heap.size w w' := by
  go_enter Try.func10, Try.ntmps10
  go_wp2_with fail
  refine (some_any _).mono ?_
  rintro e w2 ⟨A, a1, a2, b1, b2, b3, rfl, hs, b⟩
  obtain ⟨w3, hw3⟩ : ∃ w3, w3 = w2.alloc (schBox A 2 2) := ⟨_, rfl⟩
  have HW3 := Lib.hid hw3
  have HB3 : Hid (Below w.heap.size w w3) := by rw [hw3]; exact below_new b _
  have R3 : Hid (w3.heap[w2.heap.size]? = some (schBox A 2 2)) := by rw [hw3]; exact heap_alloc_new _ _
  have HS3 : Hid (RdS w3 A 2 2 [tA a1 a2, tB b1 b2 b3]) := by
    show RdS _ _ _ _ _
    exact hs.below (by rw [hw3]; exact below_new (Below.refl _ _) _)
  clear hw3 hs b
  go_upto_region 2 with fail
  rw [show w2.alloc (schBox A 2 2) = w3 from HW3.out.symm]
  clear HW3
  generalize w2.heap.size = g at R3 ⊢
  obtain ⟨bt, ot, x1, hA, _, hx1, hr1, hl1⟩ := HS3.out.tab (k := 1) (by omega)
  obtain ⟨_, _, x0, hA0, _, hx0, hr0, hl0⟩ := HS3.out.tab (k := 0) (by omega)
  cases hx1
  cases hx0
  subst hA
  cases hA0
  have HB1 := Lib.hid hr1; have HA1 := Lib.hid hr0; have HL1 := Lib.hid hl1; have HL0 := Lib.hid hl0
  clear hr1 hr0 hl1 hl0
  have E1 := Lib.hid (Below.refl w3.heap.size w3)
  have E3 := E1
  have s0 := sch_row R3.out
  have C1 := Lib.hid (table_any (some ⟨bt, ot, none⟩) 2 2 [tA a1 a2, tB b1 b2 b3] ⟨#[98]⟩ w3 HS3.out)
  rw [al_table] at C1
  go_wp2_with fail
  refine (C1.out).mono ?_
  rintro e w4 ⟨rfl, b⟩
  have E4 := Lib.hid (below_then E3.out b)
  clear b
  clear C1 s0
  have s0 := sch_row (row_below R3.out E4.out)
  have C2 := Lib.hid (right11_is (some ⟨bt, ot, none⟩) 2 2 _ 0 w4 (HS3.out.below E4.out) (al_right a1 a2 b1 b2 b3))
  simp only [at0, Option.isSome]
  go_wp2_with fail
  refine (C2.out).mono ?_
  rintro e w5 ⟨rfl, b⟩
  have E5 := Lib.hid (below_then E4.out b)
  clear b
  clear C2 s0
  have s0 := sch_row (row_below R3.out E5.out)
  obtain ⟨d0, d1, d2, d3, d4, d5⟩ := HL1.out w5 E5.out
  rw [Nat.one_mul] at d0 d1 d2 d3 d4 d5
  dsimp only [tB] at d0 d1 d2 d3 d4 d5
  have C3 : Hid (Calls Try.prog 18 #[.agg #[.string ⟨#[98]⟩, .slice b1 3 3, .slice b2 1 1, .slice none 0 0, .slice b3 1 1, .slice none 0 0], .string ⟨#[99]⟩] w5 fun e w' => e = .returned (.tuple #[.int .i64 2, .bool true]) ∧ Below w5.heap.size w5 w') := by
    have := column_any (tB b1 b2 b3) ⟨#[99]⟩ w5 (HB1.out.cols.below E5.out)
    rw [al_column] at this
    exact this
  go_wp2_with fail
  refine (C3.out).mono ?_
  rintro e w6 ⟨rfl, b⟩
  have E6 := Lib.hid (below_then E5.out b)
  clear b
  clear C3 s0 d0 d1 d2 d3 d4 d5
  have s0 := sch_row (row_below R3.out E6.out)
  obtain ⟨d0, d1, d2, d3, d4, d5⟩ := HL1.out w6 E6.out
  rw [Nat.one_mul] at d0 d1 d2 d3 d4 d5
  dsimp only [tB] at d0 d1 d2 d3 d4 d5
  have C4 : Hid (Calls Try.prog 20 #[.agg #[.string ⟨#[98]⟩, .slice b1 3 3, .slice b2 1 1, .slice none 0 0, .slice b3 1 1, .slice none 0 0], .int .i64 1] w6 fun e w' => e = .returned (.tuple #[.agg #[.int .i64 1, .int .i64 0, .int .i64 2], .bool true]) ∧ Below w6.heap.size w6 w') := by
    have := foreign_any (tB b1 b2 b3) 1 w6 (HB1.out.fks.below E6.out)
    rw [al_for1] at this
    exact this
  go_wp2_with fail
  refine (C4.out).mono ?_
  rintro e w7 ⟨rfl, b⟩
  have E7 := Lib.hid (below_then E6.out b)
  clear b
  clear C4 s0 d0 d1 d2 d3 d4 d5
  obtain ⟨w8, hw8⟩ : ∃ w8, w8 = w7.alloc (.cells #[.int .i64 1, .int .i64 0, .int .i64 2] 42) := ⟨_, rfl⟩
  have HW8 := Lib.hid hw8
  have E8 : Hid (Below w3.heap.size w3 w8) := by rw [hw8]; exact below_new E7.out _
  have RF : Hid (w8.heap[w7.heap.size]? = some (.cells #[.int .i64 1, .int .i64 0, .int .i64 2] 42)) := by rw [hw8]; exact heap_alloc_new _ _
  clear hw8
  go_upto_region 7 with fail
  rw [show w7.alloc (.cells #[.int .i64 1, .int .i64 0, .int .i64 2] 42) = w8 from HW8.out.symm]
  clear HW8
  generalize w7.heap.size = gf at RF ⊢
  have s0 := sch_row (row_below R3.out E8.out)
  obtain ⟨d0, d1, d2, d3, d4, d5⟩ := HL1.out w8 E8.out
  rw [Nat.one_mul] at d0 d1 d2 d3 d4 d5
  dsimp only [tB] at d0 d1 d2 d3 d4 d5
  have C5 : Hid (Calls Try.prog 20 #[.agg #[.string ⟨#[98]⟩, .slice b1 3 3, .slice b2 1 1, .slice none 0 0, .slice b3 1 1, .slice none 0 0], .int .i64 2] w8 fun e w' => e = .returned (.tuple #[.agg #[.int .i64 0, .int .i64 0, .int .i64 0], .bool false]) ∧ Below w8.heap.size w8 w') := by
    have := foreign_any (tB b1 b2 b3) 2 w8 (HB1.out.fks.below E8.out)
    rw [al_for2] at this
    exact this
  go_wp2_with fail
  refine (C5.out).mono ?_
  rintro e w9 ⟨rfl, b⟩
  have E9 := Lib.hid (below_then E8.out b)
  have RF9 := Lib.hid (row_below RF.out b)
  clear b C5 s0 d0 d1 d2 d3 d4 d5
  obtain ⟨w10, hw10⟩ : ∃ w10, w10 = w9.alloc (.cells #[.int .i64 0, .int .i64 0, .int .i64 0] 42) := ⟨_, rfl⟩
  have HW10 := Lib.hid hw10
  have E10 : Hid (Below w3.heap.size w3 w10) := by rw [hw10]; exact below_new E9.out _
  have RF10 : Hid (w10.heap[gf]? = some (.cells #[.int .i64 1, .int .i64 0, .int .i64 2] 42)) := by rw [hw10]; exact row_below RF9.out (below_new (Below.refl _ _) _)
  clear hw10
  go_upto_region 8 with fail
  rw [show w9.alloc (.cells #[.int .i64 0, .int .i64 0, .int .i64 0] 42) = w10 from HW10.out.symm]
  clear HW10 RF RF9
  have s0 := sch_row (row_below R3.out E10.out)
  have C6 := Lib.hid (kids_any (some ⟨bt, ot, none⟩) 2 2 [tA a1 a2, tB b1 b2 b3] 0 w10 (HS3.out.below E10.out) (by rw [al_kids]; decide))
  rw [al_kids] at C6
  go_wp2_with fail
  refine (C6.out).mono ?_
  rintro e w11 ⟨Ak, mk, ck, rfl, hk, b⟩
  have E11 := Lib.hid (below_then E10.out b)
  have RF11 := Lib.hid (row_below RF10.out b)
  obtain rfl : 1 = mk := hk.len
  obtain ⟨bk, ok, xk, rfl, hbk, hxk, hck⟩ := hk.at_ (k := 0) (by omega)
  cases hxk
  have HK0 := Lib.hid (hck 0 _ rfl); have HK1 := Lib.hid (hck 1 _ rfl)
  have HBK := Lib.hid hbk
  clear b C6 s0 RF10 hk hbk hck
  have s0 := sch_row (row_below R3.out E11.out)
  obtain ⟨d0, d1, d2, d3, d4, d5⟩ := HL1.out w11 E11.out
  rw [Nat.one_mul] at d0 d1 d2 d3 d4 d5
  dsimp only [tB] at d0 d1 d2 d3 d4 d5
  obtain ⟨gx, hgx⟩ : ∃ gx, Hid (w11.heap.size = gx) := ⟨_, rfl⟩
  obtain ⟨w12, hw12⟩ : ∃ w12, w12 = (w11.alloc (.cells #[.string ⟨#[98]⟩, .slice b1 3 3, .slice (some ⟨gx + 1, 0, none⟩) 1 1, .slice none 0 0, .slice b3 1 1, .slice none 0 0] 39)).alloc (.cells #[.int .i64 2] 3) := ⟨_, rfl⟩
  have HW12 := Lib.hid hw12
  have b12 : Below w11.heap.size w11 w12 := by rw [hw12]; exact below_new (below_new (Below.refl _ _) _) _
  have E12 := Lib.hid (below_then E11.out b12)
  have RF12 := Lib.hid (row_below RF11.out b12)
  have RX : Hid (w12.heap[gx]? = some (tabBox (tX b1 (some ⟨gx + 1, 0, none⟩) b3))) := by
    show _ = _
    rw [hw12, Below.heap_alloc _ _ _ (by rw [World.size_alloc, hgx.out]; omega), ← hgx.out]; exact heap_alloc_new _ _
  have HXR : Hid ((tX b1 (some ⟨gx + 1, 0, none⟩) b3).Reads w12) := by
    refine ⟨(HB1.out.cols.below E11.out).below b12, ?_, ⟨Nat.le_refl 0, Nat.zero_le _⟩, (HB1.out.fks.below E11.out).below b12, RdG.nil_ _⟩
    show Rd w12 (some ⟨gx + 1, 0, none⟩) 1 1 (vals .i64 [2])
    rw [hw12]
    exact rd_at _ (vals .i64 [2]) _ rfl (by decide) (by rw [World.size_alloc, hgx.out])
  have k0 : w12.cell? ⟨bk, ok, none⟩ = some (.int .i64 1) := (b12.cell (p := ⟨bk, ok, none⟩) HBK.out).trans (by have := HK0.out; rwa [Nat.zero_mul, Nat.add_zero] at this)
  have k1 : w12.cell? ⟨bk, ok + 1, none⟩ = some (.int .i64 0) := (b12.cell (p := ⟨bk, ok + 1, none⟩) HBK.out).trans (by have := HK1.out; rwa [Nat.zero_mul, Nat.add_zero] at this)
  have hbk12 : bk < w12.heap.size := Nat.lt_of_lt_of_le HBK.out b12.size
  clear hw12 b12 HK0 HK1 RF11 HBK
  go_upto_region 11 with fail
  rw [hgx.out]
  rw [show (w11.alloc (.cells #[.string ⟨#[98]⟩, .slice b1 3 3, .slice (some ⟨gx + 1, 0, none⟩) 1 1, .slice none 0 0, .slice b3 1 1, .slice none 0 0] 39)).alloc (.cells #[.int .i64 2] 3) = w12 from HW12.out.symm]
  clear HW12 s0 d0 d1 d2 d3 d4 d5
  have s0 := sch_row (row_below R3.out E12.out)
  obtain ⟨d0, d1, d2, d3, d4, d5⟩ := HL1.out w12 E12.out
  rw [Nat.one_mul] at d0 d1 d2 d3 d4 d5
  dsimp only [tB] at d0 d1 d2 d3 d4 d5
  obtain ⟨gy, hgy⟩ : ∃ gy, Hid (w12.heap.size = gy) := ⟨_, rfl⟩
  obtain ⟨w13, hw13⟩ : ∃ w13, w13 = (w12.alloc (.cells #[.string ⟨#[98]⟩, .slice b1 3 3, .slice b2 1 1, .slice none 0 0, .slice (some ⟨gy + 1, 0, none⟩) 1 1, .slice none 0 0] 39)).alloc (.cells #[.int .i64 1, .int .i64 2, .int .i64 0] 42) := ⟨_, rfl⟩
  have HW13 := Lib.hid hw13
  have b13 : Below w12.heap.size w12 w13 := by rw [hw13]; exact below_new (below_new (Below.refl _ _) _) _
  have E13 := Lib.hid (below_then E12.out b13)
  have RX13 := Lib.hid (row_below RX.out b13)
  have RY13 : Hid (w13.heap[gy]? = some (tabBox (tY b1 b2 (some ⟨gy + 1, 0, none⟩)))) := by
    show _ = _
    rw [hw13, Below.heap_alloc _ _ _ (by rw [World.size_alloc, hgy.out]; omega), ← hgy.out]; exact heap_alloc_new _ _
  have HYR : Hid ((tY b1 b2 (some ⟨gy + 1, 0, none⟩)).Reads w13) := by
    refine ⟨(HB1.out.cols.below E12.out).below b13, (HB1.out.uni.below E12.out).below b13, ⟨Nat.le_refl 0, Nat.zero_le _⟩, ?_, RdG.nil_ _⟩
    show RdF w13 (some ⟨gy + 1, 0, none⟩) 1 1 [⟨1, 2, 0⟩]
    rw [hw13]
    exact rdg_new f3len _ [⟨1, 2, 0⟩] _ _ rfl rfl (by decide) (by rw [World.size_alloc, hgy.out])
  have HXR13 := Lib.hid (HXR.out.below b13)
  have QF : Hid (w13.cell? ⟨gf, 2, none⟩ = some (.int .i64 2)) := cell_row (row_below RF12.out b13) 2
  have QK0 : Hid (w13.cell? ⟨bk, ok, none⟩ = some (.int .i64 1)) := (b13.cell (p := ⟨bk, ok, none⟩) hbk12).trans k0
  have QK1 : Hid (w13.cell? ⟨bk, ok + 1, none⟩ = some (.int .i64 0)) := (b13.cell (p := ⟨bk, ok + 1, none⟩) hbk12).trans k1
  have EQ : ∀ W, (Op.equalIn 10000 30 (.agg #[.int .i64 1, .int .i64 0]) (.agg #[.int .i64 1, .int .i64 0])).run Try.prog W = .ok true W := fun W => by kernel_rfl
  have C7 : Hid (∀ W, Calls Try.prog 14 #[.agg #[.slice none 0 0]] W fun e w' => e = .returned (.int .i64 2) ∧ Below W.heap.size W w') := fun W => right11_is none 0 0 [] 2 W ⟨RdG.nil_ _, fun t ht => by cases ht⟩ al_none
  clear hw13 b13 k0 k1 hbk12 RF12 HXR RX
  go_upto_region 13 with fail
  dsimp only [List.append]
  rw [hgy.out]
  rw [show (w12.alloc (.cells #[.string ⟨#[98]⟩, .slice b1 3 3, .slice b2 1 1, .slice none 0 0, .slice (some ⟨gy + 1, 0, none⟩) 1 1, .slice none 0 0] 39)).alloc (.cells #[.int .i64 1, .int .i64 2, .int .i64 0] 42) = w13 from HW13.out.symm]
  clear HW13 s0 d0 d1 d2 d3 d4 d5
  have KA : Hid (∀ W, Below w13.heap.size w13 W → Below w13.heap.size w13 W ∧ W.cell? ⟨g, 0, none⟩ = some (.slice (some ⟨bt, ot, none⟩) 2 2) ∧ W.cell? ⟨bt, ot, none⟩ = some (.string ⟨#[97]⟩) ∧ W.cell? ⟨bt, ot + 1, none⟩ = some (.slice a1 3 3) ∧ W.cell? ⟨bt, ot + 2, none⟩ = some (.slice none 0 0) ∧ W.cell? ⟨bt, ot + 3, none⟩ = some (.slice none 0 0) ∧ W.cell? ⟨bt, ot + 4, none⟩ = some (.slice none 0 0) ∧ W.cell? ⟨bt, ot + 5, none⟩ = some (.slice a2 1 1) ∧ W.cell? ⟨gx, 0, none⟩ = some (.string ⟨#[98]⟩) ∧ W.cell? ⟨gx, 1, none⟩ = some (.slice b1 3 3) ∧ W.cell? ⟨gx, 2, none⟩ = some (.slice (some ⟨gx + 1, 0, none⟩) 1 1) ∧ W.cell? ⟨gx, 3, none⟩ = some (.slice none 0 0) ∧ W.cell? ⟨gx, 4, none⟩ = some (.slice b3 1 1) ∧ W.cell? ⟨gx, 5, none⟩ = some (.slice none 0 0) ∧ W.cell? ⟨gy, 0, none⟩ = some (.string ⟨#[98]⟩) ∧ W.cell? ⟨gy, 1, none⟩ = some (.slice b1 3 3) ∧ W.cell? ⟨gy, 2, none⟩ = some (.slice b2 1 1) ∧ W.cell? ⟨gy, 3, none⟩ = some (.slice none 0 0) ∧ W.cell? ⟨gy, 4, none⟩ = some (.slice (some ⟨gy + 1, 0, none⟩) 1 1) ∧ W.cell? ⟨gy, 5, none⟩ = some (.slice none 0 0) ∧ W.cell? ⟨gf, 2, none⟩ = some (.int .i64 2) ∧ W.cell? ⟨bk, ok, none⟩ = some (.int .i64 1) ∧ W.cell? ⟨bk, ok + 1, none⟩ = some (.int .i64 0)) := by
    intro W hb
    have hc : ∀ (p : Addr) (y : Value), w13.cell? p = some y → W.cell? p = some y := fun p y h2 => (hb.cell (World.block_lt_of_cell? _ _ h2)).trans h2
    obtain ⟨f0, f1, f2, f3, f4, f5⟩ := HL0.out W (below_then E13.out hb)
    rw [Nat.zero_mul, Nat.add_zero] at f0 f1 f2 f3 f4 f5
    obtain ⟨x0, x1, x2, x3, x4, x5⟩ := tab_row (t := tX b1 (some ⟨gx + 1, 0, none⟩) b3) (row_below RX13.out hb)
    obtain ⟨y0, y1, y2, y3, y4, y5⟩ := tab_row (t := tY b1 b2 (some ⟨gy + 1, 0, none⟩)) (row_below RY13.out hb)
    exact ⟨hb, sch_row (row_below R3.out (below_then E13.out hb)), f0, f1, f2, f3, f4, f5, x0, x1, x2, x3, x4, x5, y0, y1, y2, y3, y4, y5, hc _ _ QF.out, hc _ _ QK0.out, hc _ _ QK1.out⟩
  have hS0 := KA.out w13.drew (Below.refl _ _).drew
  have N1 : Hid (∀ W, Calls Try.prog 11 #[.string ⟨#[97, 95, 49]⟩] W fun e w' => e = .returned (.bool true) ∧ Below W.heap.size W w') := fun W => by rw [← al_name1]; exact name_any _ W
  have N2 : Hid (∀ W, Calls Try.prog 11 #[.string ⟨#[49, 97]⟩] W fun e w' => e = .returned (.bool false) ∧ Below W.heap.size W w') := fun W => by rw [← al_name2]; exact name_any _ W
  have P1 : Hid (∀ W, Below w13.heap.size w13 W → Calls Try.prog 14 #[.agg #[.slice (some ⟨W.heap.size, 0, none⟩) 2 2]] (W.alloc (.cells #[.string ⟨#[97]⟩, .slice a1 3 3, .slice none 0 0, .slice none 0 0, .slice none 0 0, .slice a2 1 1, .string ⟨#[97]⟩, .slice a1 3 3, .slice none 0 0, .slice none 0 0, .slice none 0 0, .slice a2 1 1] 39)) fun e w' => e = .returned (.int .i64 5) ∧ Below (W.alloc (.cells #[.string ⟨#[97]⟩, .slice a1 3 3, .slice none 0 0, .slice none 0 0, .slice none 0 0, .slice a2 1 1, .string ⟨#[97]⟩, .slice a1 3 3, .slice none 0 0, .slice none 0 0, .slice none 0 0, .slice a2 1 1] 39)).heap.size (W.alloc (.cells #[.string ⟨#[97]⟩, .slice a1 3 3, .slice none 0 0, .slice none 0 0, .slice none 0 0, .slice a2 1 1, .string ⟨#[97]⟩, .slice a1 3 3, .slice none 0 0, .slice none 0 0, .slice none 0 0, .slice a2 1 1] 39)) w') := fun W hW =>
    right_two (tA a1 a2) (tA a1 a2) W _ 5 rfl (HA1.out.below (below_then E13.out hW)) (HA1.out.below (below_then E13.out hW)) (al_twice a1 a2)
  have P2 : Hid (∀ W, Below w13.heap.size w13 W → Calls Try.prog 14 #[.agg #[.slice (some ⟨W.heap.size, 0, none⟩) 2 2]] (W.alloc (.cells #[.string ⟨#[97]⟩, .slice a1 3 3, .slice none 0 0, .slice none 0 0, .slice none 0 0, .slice a2 1 1, .string ⟨#[98]⟩, .slice b1 3 3, .slice (some ⟨gx + 1, 0, none⟩) 1 1, .slice none 0 0, .slice b3 1 1, .slice none 0 0] 39)) fun e w' => e = .returned (.int .i64 6) ∧ Below (W.alloc (.cells #[.string ⟨#[97]⟩, .slice a1 3 3, .slice none 0 0, .slice none 0 0, .slice none 0 0, .slice a2 1 1, .string ⟨#[98]⟩, .slice b1 3 3, .slice (some ⟨gx + 1, 0, none⟩) 1 1, .slice none 0 0, .slice b3 1 1, .slice none 0 0] 39)).heap.size (W.alloc (.cells #[.string ⟨#[97]⟩, .slice a1 3 3, .slice none 0 0, .slice none 0 0, .slice none 0 0, .slice a2 1 1, .string ⟨#[98]⟩, .slice b1 3 3, .slice (some ⟨gx + 1, 0, none⟩) 1 1, .slice none 0 0, .slice b3 1 1, .slice none 0 0] 39)) w') := fun W hW =>
    right_two (tA a1 a2) (tX b1 (some ⟨gx + 1, 0, none⟩) b3) W _ 6 rfl (HA1.out.below (below_then E13.out hW)) (HXR13.out.below hW) (al_x a1 a2 b1 _ b3)
  have P3 : Hid (∀ W, Below w13.heap.size w13 W → Calls Try.prog 14 #[.agg #[.slice (some ⟨W.heap.size, 0, none⟩) 2 2]] (W.alloc (.cells #[.string ⟨#[97]⟩, .slice a1 3 3, .slice none 0 0, .slice none 0 0, .slice none 0 0, .slice a2 1 1, .string ⟨#[98]⟩, .slice b1 3 3, .slice b2 1 1, .slice none 0 0, .slice (some ⟨gy + 1, 0, none⟩) 1 1, .slice none 0 0] 39)) fun e w' => e = .returned (.int .i64 4) ∧ Below (W.alloc (.cells #[.string ⟨#[97]⟩, .slice a1 3 3, .slice none 0 0, .slice none 0 0, .slice none 0 0, .slice a2 1 1, .string ⟨#[98]⟩, .slice b1 3 3, .slice b2 1 1, .slice none 0 0, .slice (some ⟨gy + 1, 0, none⟩) 1 1, .slice none 0 0] 39)).heap.size (W.alloc (.cells #[.string ⟨#[97]⟩, .slice a1 3 3, .slice none 0 0, .slice none 0 0, .slice none 0 0, .slice a2 1 1, .string ⟨#[98]⟩, .slice b1 3 3, .slice b2 1 1, .slice none 0 0, .slice (some ⟨gy + 1, 0, none⟩) 1 1, .slice none 0 0] 39)) w') := fun W hW =>
    right_two (tA a1 a2) (tY b1 b2 (some ⟨gy + 1, 0, none⟩)) W _ 4 rfl (HA1.out.below (below_then E13.out hW)) (HYR.out.below hW) (al_y a1 a2 b1 b2 _)
  clear E1 E3 E4 E5 E6 E7 E8 E9 E10 E11 E12 RX13 RY13 HXR13 HYR HS3 HB1 HA1 HL1 HL0 QF QK0 QK1 R3
  have HBF := Lib.hid (below_then HB3.out E13.out)
  clear E13 HB3
  refine wp_region_noPanic ?_
  refine wp_region_held_drew (S := (fun W => Below w13.heap.size w13 W ∧ W.cell? ⟨g, 0, none⟩ = some (.slice (some ⟨bt, ot, none⟩) 2 2) ∧ W.cell? ⟨bt, ot, none⟩ = some (.string ⟨#[97]⟩) ∧ W.cell? ⟨bt, ot + 1, none⟩ = some (.slice a1 3 3) ∧ W.cell? ⟨bt, ot + 2, none⟩ = some (.slice none 0 0) ∧ W.cell? ⟨bt, ot + 3, none⟩ = some (.slice none 0 0) ∧ W.cell? ⟨bt, ot + 4, none⟩ = some (.slice none 0 0) ∧ W.cell? ⟨bt, ot + 5, none⟩ = some (.slice a2 1 1) ∧ W.cell? ⟨gx, 0, none⟩ = some (.string ⟨#[98]⟩) ∧ W.cell? ⟨gx, 1, none⟩ = some (.slice b1 3 3) ∧ W.cell? ⟨gx, 2, none⟩ = some (.slice (some ⟨gx + 1, 0, none⟩) 1 1) ∧ W.cell? ⟨gx, 3, none⟩ = some (.slice none 0 0) ∧ W.cell? ⟨gx, 4, none⟩ = some (.slice b3 1 1) ∧ W.cell? ⟨gx, 5, none⟩ = some (.slice none 0 0) ∧ W.cell? ⟨gy, 0, none⟩ = some (.string ⟨#[98]⟩) ∧ W.cell? ⟨gy, 1, none⟩ = some (.slice b1 3 3) ∧ W.cell? ⟨gy, 2, none⟩ = some (.slice b2 1 1) ∧ W.cell? ⟨gy, 3, none⟩ = some (.slice none 0 0) ∧ W.cell? ⟨gy, 4, none⟩ = some (.slice (some ⟨gy + 1, 0, none⟩) 1 1) ∧ W.cell? ⟨gy, 5, none⟩ = some (.slice none 0 0) ∧ W.cell? ⟨gf, 2, none⟩ = some (.int .i64 2) ∧ W.cell? ⟨bk, ok, none⟩ = some (.int .i64 1) ∧ W.cell? ⟨bk, ok + 1, none⟩ = some (.int .i64 0))) (by kernel_rfl) ?_ (fun hHeld => ?_)
  · exact hS0
  refine wpAnyH_one (by kernel_rfl) (fun _ _ _ _ _ h => h) (by assumption) 0 77 (some 69) ?_ _ (by rfl) (by rfl) (by kernel_rfl) (by rfl) ?_ ?_
  rotate_left 1
  · intro W hSw
    (try dsimp only at hSw)
    go_simp
    (try with_reducible rfl)
  (try simp only [Act.put, List.setIfInBounds_toArray, List.set_cons_zero, List.set_cons_succ])
  refine wpAnyH_one (by kernel_rfl) (fun _ _ _ _ _ h => h) (by assumption) 1 76 (some 70) ?_ _ (by rfl) (by rfl) (by kernel_rfl) (by rfl) ?_ ?_
  rotate_left 1
  · intro W hSw
    (try dsimp only at hSw)
    go_simp
    (try with_reducible rfl)
  (try simp only [Act.put, List.setIfInBounds_toArray, List.set_cons_zero, List.set_cons_succ])
  refine wpAnyH_one (by kernel_rfl) (fun _ _ _ _ _ h => h) (by assumption) 2 75 (some 71) ?_ _ (by rfl) (by rfl) (by kernel_rfl) (by rfl) ?_ ?_
  rotate_left 1
  · intro W hSw
    (try dsimp only at hSw)
    go_simp
    (try with_reducible rfl)
  (try simp only [Act.put, List.setIfInBounds_toArray, List.set_cons_zero, List.set_cons_succ])
  refine wpAnyH_one (by kernel_rfl) (fun _ _ _ _ _ h => h) (by assumption) 3 74 (some 72) ?_ _ (by rfl) (by rfl) (by kernel_rfl) (by rfl) ?_ ?_
  rotate_left 1
  · intro W hSw
    (try dsimp only at hSw)
    go_simp
    (try with_reducible rfl)
  (try simp only [Act.put, List.setIfInBounds_toArray, List.set_cons_zero, List.set_cons_succ])
  refine wpAnyH_puts (by kernel_rfl) (fun _ _ _ _ _ h => h) (by assumption) [4, 5] 72 [(some 73, .bool true), (some 74, .bool true)] (by kernel_rfl) (by kernel_rfl) ?_
  (try simp only [putsOf, Act.put, List.setIfInBounds_toArray, List.set_cons_zero, List.set_cons_succ])
  refine wpAnyH_one (by kernel_rfl) (fun _ _ _ _ _ h => h) (by assumption) 6 71 (some 75) ?_ _ (by rfl) (by rfl) (by kernel_rfl) (by rfl) ?_ ?_
  rotate_left 1
  · intro W hSw
    (try dsimp only at hSw)
    go_simp
    (try with_reducible rfl)
  (try simp only [Act.put, List.setIfInBounds_toArray, List.set_cons_zero, List.set_cons_succ])
  refine wpAnyH_puts (by kernel_rfl) (fun _ _ _ _ _ h => h) (by assumption) [7, 8] 69 [(some 76, .bool true), (some 77, .bool true)] (by kernel_rfl) (by kernel_rfl) ?_
  (try simp only [putsOf, Act.put, List.setIfInBounds_toArray, List.set_cons_zero, List.set_cons_succ])
  refine wpAnyH_one (by kernel_rfl) (fun _ _ _ _ _ h => h) (by assumption) 9 68 (some 78) ?_ _ (by rfl) (by rfl) (by kernel_rfl) (by rfl) ?_ ?_
  rotate_left 1
  · intro W hSw
    (try dsimp only at hSw)
    go_simp
    (try with_reducible rfl)
  (try simp only [Act.put, List.setIfInBounds_toArray, List.set_cons_zero, List.set_cons_succ])
  refine wpAnyH_one (by kernel_rfl) (fun _ _ _ _ _ h => h) (by assumption) 10 67 (some 79) ?_ _ (by rfl) (by rfl) (by kernel_rfl) (by rfl) ?_ ?_
  rotate_left 1
  · intro W hSw
    (try dsimp only at hSw)
    go_simp
    (try with_reducible rfl)
  (try simp only [Act.put, List.setIfInBounds_toArray, List.set_cons_zero, List.set_cons_succ])
  refine wpAnyH_one (by kernel_rfl) (fun _ _ _ _ _ h => h) (by assumption) 11 66 (some 80) ?_ _ (by rfl) (by rfl) (by kernel_rfl) (by rfl) ?_ ?_
  rotate_left 1
  · intro W hSw
    (try dsimp only at hSw)
    go_simp
    (try with_reducible rfl)
  (try simp only [Act.put, List.setIfInBounds_toArray, List.set_cons_zero, List.set_cons_succ])
  refine wpAnyH_puts (by kernel_rfl) (fun _ _ _ _ _ h => h) (by assumption) [12, 13] 64 [(some 81, .bool true), (some 82, .bool true)] (by kernel_rfl) (by kernel_rfl) ?_
  (try simp only [putsOf, Act.put, List.setIfInBounds_toArray, List.set_cons_zero, List.set_cons_succ])
  refine wpAnyH_one (by kernel_rfl) (fun _ _ _ _ _ h => h) (by assumption) 14 63 (some 83) ?_ _ (by rfl) (by rfl) (by kernel_rfl) (by rfl) ?_ ?_
  rotate_left 1
  · intro W hSw
    (try dsimp only at hSw)
    go_simp
    (try with_reducible rfl)
  (try simp only [Act.put, List.setIfInBounds_toArray, List.set_cons_zero, List.set_cons_succ])
  refine wpAnyH_one (by kernel_rfl) (fun _ _ _ _ _ h => h) (by assumption) 15 62 (some 84) ?_ _ (by rfl) (by rfl) (by kernel_rfl) (by rfl) ?_ ?_
  rotate_left 1
  · intro W hSw
    (try dsimp only at hSw)
    go_simp
    (try with_reducible rfl)
  (try simp only [Act.put, List.setIfInBounds_toArray, List.set_cons_zero, List.set_cons_succ])
  refine wpAnyH_puts (by kernel_rfl) (fun _ _ _ _ _ h => h) (by assumption) [16, 17] 60 [(some 85, .bool true), (some 86, .bool true)] (by kernel_rfl) (by kernel_rfl) ?_
  (try simp only [putsOf, Act.put, List.setIfInBounds_toArray, List.set_cons_zero, List.set_cons_succ])
  refine wpAnyH_one (by kernel_rfl) (fun _ _ _ _ _ h => h) (by assumption) 18 59 (some 87) ?_ _ (by rfl) (by rfl) (by kernel_rfl) (by rfl) ?_ ?_
  rotate_left 1
  · intro W hSw
    (try dsimp only at hSw)
    go_simp
    (try with_reducible rfl)
  (try simp only [Act.put, List.setIfInBounds_toArray, List.set_cons_zero, List.set_cons_succ])
  refine wpAnyH_one (by kernel_rfl) (fun _ _ _ _ _ h => h) (by assumption) 19 58 (some 88) ?_ _ (by rfl) (by rfl) (by kernel_rfl) (by rfl) ?_ ?_
  rotate_left 1
  · intro W hSw
    (try dsimp only at hSw)
    go_simp
    (try with_reducible rfl)
  (try simp only [Act.put, List.setIfInBounds_toArray, List.set_cons_zero, List.set_cons_succ])
  refine wpAnyH_one (by kernel_rfl) (fun _ _ _ _ _ h => h) (by assumption) 20 57 (some 89) ?_ _ (by rfl) (by rfl) (by kernel_rfl) (by rfl) ?_ ?_
  rotate_left 1
  · intro W hSw
    (try dsimp only at hSw)
    go_simp
    (try with_reducible rfl)
  (try simp only [Act.put, List.setIfInBounds_toArray, List.set_cons_zero, List.set_cons_succ])
  refine wpAnyH_puts (by kernel_rfl) (fun _ _ _ _ _ h => h) (by assumption) [21, 22] 55 [(some 90, .bool true), (some 91, .bool true)] (by kernel_rfl) (by kernel_rfl) ?_
  (try simp only [putsOf, Act.put, List.setIfInBounds_toArray, List.set_cons_zero, List.set_cons_succ])
  refine wpAnyH_one (by kernel_rfl) (fun _ _ _ _ _ h => h) (by assumption) 23 54 (some 92) ?_ _ (by rfl) (by rfl) (by kernel_rfl) (by rfl) ?_ ?_
  rotate_left 1
  · intro W hSw
    (try dsimp only at hSw)
    go_simp
    (try with_reducible rfl)
  (try simp only [Act.put, List.setIfInBounds_toArray, List.set_cons_zero, List.set_cons_succ])
  refine wpAnyH_one (by kernel_rfl) (fun _ _ _ _ _ h => h) (by assumption) 24 53 (some 93) ?_ _ (by rfl) (by rfl) (by kernel_rfl) (by rfl) ?_ ?_
  rotate_left 1
  · intro W hSw
    (try dsimp only at hSw)
    go_simp
    (try with_reducible rfl)
  (try simp only [Act.put, List.setIfInBounds_toArray, List.set_cons_zero, List.set_cons_succ])
  refine wpAnyH_one (by kernel_rfl) (fun _ _ _ _ _ h => h) (by assumption) 25 52 (some 94) ?_ _ (by rfl) (by rfl) (by kernel_rfl) (by rfl) ?_ ?_
  rotate_left 1
  · intro W hSw
    (try dsimp only at hSw)
    go_simp
    (try with_reducible rfl)
  (try simp only [Act.put, List.setIfInBounds_toArray, List.set_cons_zero, List.set_cons_succ])
  refine wpAnyH_one (by kernel_rfl) (fun _ _ _ _ _ h => h) (by assumption) 26 51 (some 95) ?_ _ (by rfl) (by rfl) (by kernel_rfl) (by rfl) ?_ ?_
  rotate_left 1
  · intro W hSw
    (try dsimp only at hSw)
    go_simp
    (try with_reducible rfl)
  (try simp only [Act.put, List.setIfInBounds_toArray, List.set_cons_zero, List.set_cons_succ])
  refine wpAnyH_one (by kernel_rfl) (fun _ _ _ _ _ h => h) (by assumption) 27 50 (some 96) ?_ _ (by rfl) (by rfl) (by kernel_rfl) (by rfl) ?_ ?_
  rotate_left 1
  · intro W hSw
    (try dsimp only at hSw)
    go_simp
    (try with_reducible rfl)
  (try simp only [Act.put, List.setIfInBounds_toArray, List.set_cons_zero, List.set_cons_succ])
  refine wpAnyH_puts (by kernel_rfl) (fun _ _ _ _ _ h => h) (by assumption) [28, 29] 48 [(some 97, .bool true), (some 98, .bool true)] (by kernel_rfl) (by kernel_rfl) ?_
  (try simp only [putsOf, Act.put, List.setIfInBounds_toArray, List.set_cons_zero, List.set_cons_succ])
  refine wpAnyH_one (by kernel_rfl) (fun _ _ _ _ _ h => h) (by assumption) 30 47 (some 99) ?_ _ (by rfl) (by rfl) (by kernel_rfl) (by rfl) ?_ ?_
  rotate_left 1
  · intro W hSw
    (try dsimp only at hSw)
    go_simp
    (try with_reducible rfl)
  (try simp only [Act.put, List.setIfInBounds_toArray, List.set_cons_zero, List.set_cons_succ])
  refine wpAnyH_ready (rs := [31]) (by kernel_rfl) (by simp) (AllReadyH.cons rfl (fun K hK => ?_) AllReadyH.nil)
  go_simp
  refine (C7.out _).mono ?_
  rintro e wx ⟨rfl, bb⟩
  (try go_wp2_with fail)
  refine hK.out _ _ ?_ (fun hHeld => ?_)
  · (try dsimp only)
    first | exact KA.out _ (below_then hHeld.1 bb) | exact KA.out _ (below_new hHeld.1 _)
  clear hK K
  (try simp only [Act.put, List.setIfInBounds_toArray, List.set_cons_zero, List.set_cons_succ])
  refine wpAnyH_one (by kernel_rfl) (fun _ _ _ _ _ h => h) (by assumption) 32 45 (some 101) ?_ _ (by rfl) (by rfl) (by kernel_rfl) (by rfl) ?_ ?_
  rotate_left 1
  · intro W hSw
    (try dsimp only at hSw)
    go_simp
    (try with_reducible rfl)
  (try simp only [Act.put, List.setIfInBounds_toArray, List.set_cons_zero, List.set_cons_succ])
  refine wpAnyH_puts (by kernel_rfl) (fun _ _ _ _ _ h => h) (by assumption) [33, 34] 43 [(some 102, .bool true), (some 103, .bool true)] (by kernel_rfl) (by kernel_rfl) ?_
  (try simp only [putsOf, Act.put, List.setIfInBounds_toArray, List.set_cons_zero, List.set_cons_succ])
  refine wpAnyH_one (by kernel_rfl) (fun _ _ _ _ _ h => h) (by assumption) 35 42 (some 104) ?_ _ (by rfl) (by rfl) (by kernel_rfl) (by rfl) ?_ ?_
  rotate_left 1
  · intro W hSw
    (try dsimp only at hSw)
    go_simp
    (try with_reducible rfl)
  (try simp only [Act.put, List.setIfInBounds_toArray, List.set_cons_zero, List.set_cons_succ])
  refine wpAnyH_one (by kernel_rfl) (fun _ _ _ _ _ h => h) (by assumption) 36 41 (some 105) ?_ _ (by rfl) (by rfl) (by kernel_rfl) (by rfl) ?_ ?_
  rotate_left 1
  · intro W hSw
    (try dsimp only at hSw)
    go_simp
    (try with_reducible rfl)
  (try simp only [Act.put, List.setIfInBounds_toArray, List.set_cons_zero, List.set_cons_succ])
  refine wpAnyH_one (by kernel_rfl) (fun _ _ _ _ _ h => h) (by assumption) 37 40 (some 106) ?_ _ (by rfl) (by rfl) (by kernel_rfl) (by rfl) ?_ ?_
  rotate_left 1
  · intro W hSw
    (try dsimp only at hSw)
    go_simp
    (try with_reducible rfl)
  (try simp only [Act.put, List.setIfInBounds_toArray, List.set_cons_zero, List.set_cons_succ])
  refine wpAnyH_one (by kernel_rfl) (fun _ _ _ _ _ h => h) (by assumption) 38 39 (some 107) ?_ _ (by rfl) (by rfl) (by kernel_rfl) (by rfl) ?_ ?_
  rotate_left 1
  · intro W hSw
    (try dsimp only at hSw)
    go_simp
    (try with_reducible rfl)
  (try simp only [Act.put, List.setIfInBounds_toArray, List.set_cons_zero, List.set_cons_succ])
  refine wpAnyH_one (by kernel_rfl) (fun _ _ _ _ _ h => h) (by assumption) 39 38 (some 108) ?_ _ (by rfl) (by rfl) (by kernel_rfl) (by rfl) ?_ ?_
  rotate_left 1
  · intro W hSw
    (try dsimp only at hSw)
    go_simp
    (try with_reducible rfl)
  (try simp only [Act.put, List.setIfInBounds_toArray, List.set_cons_zero, List.set_cons_succ])
  refine wpAnyH_one (by kernel_rfl) (fun _ _ _ _ _ h => h) (by assumption) 40 37 (some 109) ?_ _ (by rfl) (by rfl) (by kernel_rfl) (by rfl) ?_ ?_
  rotate_left 1
  · intro W hSw
    (try dsimp only at hSw)
    go_simp
    (try with_reducible rfl)
  (try simp only [Act.put, List.setIfInBounds_toArray, List.set_cons_zero, List.set_cons_succ])
  refine wpAnyH_one (by kernel_rfl) (fun _ _ _ _ _ h => h) (by assumption) 41 36 (some 110) ?_ _ (by rfl) (by rfl) (by kernel_rfl) (by rfl) ?_ ?_
  rotate_left 1
  · intro W hSw
    (try dsimp only at hSw)
    go_simp
    (try with_reducible rfl)
  (try simp only [Act.put, List.setIfInBounds_toArray, List.set_cons_zero, List.set_cons_succ])
  refine wpAnyH_one (by kernel_rfl) (fun _ _ _ _ _ h => h) (by assumption) 42 35 (some 111) ?_ _ (by rfl) (by rfl) (by kernel_rfl) (by rfl) ?_ ?_
  rotate_left 1
  · intro W hSw
    (try dsimp only at hSw)
    go_simp
    (try with_reducible rfl)
  (try simp only [Act.put, List.setIfInBounds_toArray, List.set_cons_zero, List.set_cons_succ])
  refine wpAnyH_ready (rs := [43]) (by kernel_rfl) (by simp) (AllReadyH.cons rfl (fun K hK => ?_) AllReadyH.nil)
  go_simp
  have hbW := hHeld.1
  have bb := trivial
  (try go_wp2_with fail)
  refine hK.out _ _ ?_ (fun hHeld => ?_)
  · (try dsimp only)
    first | exact KA.out _ (below_then hHeld.1 bb) | exact KA.out _ (below_new hHeld.1 _)
  clear hK K
  (try simp only [Act.put, List.setIfInBounds_toArray, List.set_cons_zero, List.set_cons_succ])
  refine wpAnyH_one (by kernel_rfl) (fun _ _ _ _ _ h => h) (by assumption) 44 33 (some 113) ?_ _ (by rfl) (by rfl) (by kernel_rfl) (by rfl) ?_ ?_
  rotate_left 1
  · intro W hSw
    (try dsimp only at hSw)
    go_simp
    (try with_reducible rfl)
  (try simp only [Act.put, List.setIfInBounds_toArray, List.set_cons_zero, List.set_cons_succ])
  refine wpAnyH_ready (rs := [45]) (by kernel_rfl) (by simp) (AllReadyH.cons rfl (fun K hK => ?_) AllReadyH.nil)
  go_simp
  refine (P1.out _ hbW).mono ?_
  rintro e wx ⟨rfl, bb⟩
  (try go_wp2_with fail)
  refine hK.out _ _ ?_ (fun hHeld => ?_)
  · (try dsimp only)
    first | exact KA.out _ (below_then hHeld.1 bb) | exact KA.out _ (below_new hHeld.1 _)
  clear hK K
  (try simp only [Act.put, List.setIfInBounds_toArray, List.set_cons_zero, List.set_cons_succ])
  refine wpAnyH_one (by kernel_rfl) (fun _ _ _ _ _ h => h) (by assumption) 46 31 (some 115) ?_ _ (by rfl) (by rfl) (by kernel_rfl) (by rfl) ?_ ?_
  rotate_left 1
  · intro W hSw
    (try dsimp only at hSw)
    go_simp
    (try with_reducible rfl)
  (try simp only [Act.put, List.setIfInBounds_toArray, List.set_cons_zero, List.set_cons_succ])
  refine wpAnyH_puts (by kernel_rfl) (fun _ _ _ _ _ h => h) (by assumption) [47, 48] 29 [(some 116, .bool true), (some 117, .bool true)] (by kernel_rfl) (by kernel_rfl) ?_
  (try simp only [putsOf, Act.put, List.setIfInBounds_toArray, List.set_cons_zero, List.set_cons_succ])
  refine wpAnyH_one (by kernel_rfl) (fun _ _ _ _ _ h => h) (by assumption) 49 28 (some 118) ?_ _ (by rfl) (by rfl) (by kernel_rfl) (by rfl) ?_ ?_
  rotate_left 1
  · intro W hSw
    (try dsimp only at hSw)
    go_simp
    (try with_reducible rfl)
  (try simp only [Act.put, List.setIfInBounds_toArray, List.set_cons_zero, List.set_cons_succ])
  refine wpAnyH_one (by kernel_rfl) (fun _ _ _ _ _ h => h) (by assumption) 50 27 (some 119) ?_ _ (by rfl) (by rfl) (by kernel_rfl) (by rfl) ?_ ?_
  rotate_left 1
  · intro W hSw
    (try dsimp only at hSw)
    go_simp
    (try with_reducible rfl)
  (try simp only [Act.put, List.setIfInBounds_toArray, List.set_cons_zero, List.set_cons_succ])
  refine wpAnyH_one (by kernel_rfl) (fun _ _ _ _ _ h => h) (by assumption) 51 26 (some 120) ?_ _ (by rfl) (by rfl) (by kernel_rfl) (by rfl) ?_ ?_
  rotate_left 1
  · intro W hSw
    (try dsimp only at hSw)
    go_simp
    (try with_reducible rfl)
  (try simp only [Act.put, List.setIfInBounds_toArray, List.set_cons_zero, List.set_cons_succ])
  refine wpAnyH_one (by kernel_rfl) (fun _ _ _ _ _ h => h) (by assumption) 52 25 (some 121) ?_ _ (by rfl) (by rfl) (by kernel_rfl) (by rfl) ?_ ?_
  rotate_left 1
  · intro W hSw
    (try dsimp only at hSw)
    go_simp
    (try with_reducible rfl)
  (try simp only [Act.put, List.setIfInBounds_toArray, List.set_cons_zero, List.set_cons_succ])
  refine wpAnyH_one (by kernel_rfl) (fun _ _ _ _ _ h => h) (by assumption) 53 24 (some 122) ?_ _ (by rfl) (by rfl) (by kernel_rfl) (by rfl) ?_ ?_
  rotate_left 1
  · intro W hSw
    (try dsimp only at hSw)
    go_simp
    (try with_reducible rfl)
  (try simp only [Act.put, List.setIfInBounds_toArray, List.set_cons_zero, List.set_cons_succ])
  refine wpAnyH_ready (rs := [54]) (by kernel_rfl) (by simp) (AllReadyH.cons rfl (fun K hK => ?_) AllReadyH.nil)
  go_simp
  have hbW := hHeld.1
  have bb := trivial
  (try go_wp2_with fail)
  refine hK.out _ _ ?_ (fun hHeld => ?_)
  · (try dsimp only)
    first | exact KA.out _ (below_then hHeld.1 bb) | exact KA.out _ (below_new hHeld.1 _)
  clear hK K
  (try simp only [Act.put, List.setIfInBounds_toArray, List.set_cons_zero, List.set_cons_succ])
  refine wpAnyH_one (by kernel_rfl) (fun _ _ _ _ _ h => h) (by assumption) 55 22 (some 124) ?_ _ (by rfl) (by rfl) (by kernel_rfl) (by rfl) ?_ ?_
  rotate_left 1
  · intro W hSw
    (try dsimp only at hSw)
    go_simp
    (try with_reducible rfl)
  (try simp only [Act.put, List.setIfInBounds_toArray, List.set_cons_zero, List.set_cons_succ])
  refine wpAnyH_ready (rs := [56]) (by kernel_rfl) (by simp) (AllReadyH.cons rfl (fun K hK => ?_) AllReadyH.nil)
  go_simp
  refine (P2.out _ hbW).mono ?_
  rintro e wx ⟨rfl, bb⟩
  (try go_wp2_with fail)
  refine hK.out _ _ ?_ (fun hHeld => ?_)
  · (try dsimp only)
    first | exact KA.out _ (below_then hHeld.1 bb) | exact KA.out _ (below_new hHeld.1 _)
  clear hK K
  (try simp only [Act.put, List.setIfInBounds_toArray, List.set_cons_zero, List.set_cons_succ])
  refine wpAnyH_one (by kernel_rfl) (fun _ _ _ _ _ h => h) (by assumption) 57 20 (some 126) ?_ _ (by rfl) (by rfl) (by kernel_rfl) (by rfl) ?_ ?_
  rotate_left 1
  · intro W hSw
    (try dsimp only at hSw)
    go_simp
    (try with_reducible rfl)
  (try simp only [Act.put, List.setIfInBounds_toArray, List.set_cons_zero, List.set_cons_succ])
  refine wpAnyH_puts (by kernel_rfl) (fun _ _ _ _ _ h => h) (by assumption) [58, 59] 18 [(some 127, .bool true), (some 128, .bool true)] (by kernel_rfl) (by kernel_rfl) ?_
  (try simp only [putsOf, Act.put, List.setIfInBounds_toArray, List.set_cons_zero, List.set_cons_succ])
  refine wpAnyH_one (by kernel_rfl) (fun _ _ _ _ _ h => h) (by assumption) 60 17 (some 129) ?_ _ (by rfl) (by rfl) (by kernel_rfl) (by rfl) ?_ ?_
  rotate_left 1
  · intro W hSw
    (try dsimp only at hSw)
    go_simp
    (try with_reducible rfl)
  (try simp only [Act.put, List.setIfInBounds_toArray, List.set_cons_zero, List.set_cons_succ])
  refine wpAnyH_one (by kernel_rfl) (fun _ _ _ _ _ h => h) (by assumption) 61 16 (some 130) ?_ _ (by rfl) (by rfl) (by kernel_rfl) (by rfl) ?_ ?_
  rotate_left 1
  · intro W hSw
    (try dsimp only at hSw)
    go_simp
    (try with_reducible rfl)
  (try simp only [Act.put, List.setIfInBounds_toArray, List.set_cons_zero, List.set_cons_succ])
  refine wpAnyH_one (by kernel_rfl) (fun _ _ _ _ _ h => h) (by assumption) 62 15 (some 131) ?_ _ (by rfl) (by rfl) (by kernel_rfl) (by rfl) ?_ ?_
  rotate_left 1
  · intro W hSw
    (try dsimp only at hSw)
    go_simp
    (try with_reducible rfl)
  (try simp only [Act.put, List.setIfInBounds_toArray, List.set_cons_zero, List.set_cons_succ])
  refine wpAnyH_one (by kernel_rfl) (fun _ _ _ _ _ h => h) (by assumption) 63 14 (some 132) ?_ _ (by rfl) (by rfl) (by kernel_rfl) (by rfl) ?_ ?_
  rotate_left 1
  · intro W hSw
    (try dsimp only at hSw)
    go_simp
    (try with_reducible rfl)
  (try simp only [Act.put, List.setIfInBounds_toArray, List.set_cons_zero, List.set_cons_succ])
  refine wpAnyH_one (by kernel_rfl) (fun _ _ _ _ _ h => h) (by assumption) 64 13 (some 133) ?_ _ (by rfl) (by rfl) (by kernel_rfl) (by rfl) ?_ ?_
  rotate_left 1
  · intro W hSw
    (try dsimp only at hSw)
    go_simp
    (try with_reducible rfl)
  (try simp only [Act.put, List.setIfInBounds_toArray, List.set_cons_zero, List.set_cons_succ])
  refine wpAnyH_ready (rs := [65]) (by kernel_rfl) (by simp) (AllReadyH.cons rfl (fun K hK => ?_) AllReadyH.nil)
  go_simp
  have hbW := hHeld.1
  have bb := trivial
  (try go_wp2_with fail)
  refine hK.out _ _ ?_ (fun hHeld => ?_)
  · (try dsimp only)
    first | exact KA.out _ (below_then hHeld.1 bb) | exact KA.out _ (below_new hHeld.1 _)
  clear hK K
  (try simp only [Act.put, List.setIfInBounds_toArray, List.set_cons_zero, List.set_cons_succ])
  refine wpAnyH_one (by kernel_rfl) (fun _ _ _ _ _ h => h) (by assumption) 66 11 (some 135) ?_ _ (by rfl) (by rfl) (by kernel_rfl) (by rfl) ?_ ?_
  rotate_left 1
  · intro W hSw
    (try dsimp only at hSw)
    go_simp
    (try with_reducible rfl)
  (try simp only [Act.put, List.setIfInBounds_toArray, List.set_cons_zero, List.set_cons_succ])
  refine wpAnyH_ready (rs := [67]) (by kernel_rfl) (by simp) (AllReadyH.cons rfl (fun K hK => ?_) AllReadyH.nil)
  go_simp
  refine (P3.out _ hbW).mono ?_
  rintro e wx ⟨rfl, bb⟩
  (try go_wp2_with fail)
  refine hK.out _ _ ?_ (fun hHeld => ?_)
  · (try dsimp only)
    first | exact KA.out _ (below_then hHeld.1 bb) | exact KA.out _ (below_new hHeld.1 _)
  clear hK K
  (try simp only [Act.put, List.setIfInBounds_toArray, List.set_cons_zero, List.set_cons_succ])
  refine wpAnyH_one (by kernel_rfl) (fun _ _ _ _ _ h => h) (by assumption) 68 9 (some 137) ?_ _ (by rfl) (by rfl) (by kernel_rfl) (by rfl) ?_ ?_
  rotate_left 1
  · intro W hSw
    (try dsimp only at hSw)
    go_simp
    (try with_reducible rfl)
  (try simp only [Act.put, List.setIfInBounds_toArray, List.set_cons_zero, List.set_cons_succ])
  refine wpAnyH_puts (by kernel_rfl) (fun _ _ _ _ _ h => h) (by assumption) [69, 70] 7 [(some 138, .bool true), (some 139, .bool true)] (by kernel_rfl) (by kernel_rfl) ?_
  (try simp only [putsOf, Act.put, List.setIfInBounds_toArray, List.set_cons_zero, List.set_cons_succ])
  refine wpAnyH_ready (rs := [71]) (by kernel_rfl) (by simp) (AllReadyH.cons rfl (fun K hK => ?_) AllReadyH.nil)
  go_simp
  refine (N1.out _).mono ?_
  rintro e wx ⟨rfl, bb⟩
  (try go_wp2_with fail)
  refine hK.out _ _ ?_ (fun hHeld => ?_)
  · (try dsimp only)
    first | exact KA.out _ (below_then hHeld.1 bb) | exact KA.out _ (below_new hHeld.1 _)
  clear hK K
  (try simp only [Act.put, List.setIfInBounds_toArray, List.set_cons_zero, List.set_cons_succ])
  refine wpAnyH_puts (by kernel_rfl) (fun _ _ _ _ _ h => h) (by assumption) [72, 73] 4 [(some 141, .bool true), (some 142, .bool true)] (by kernel_rfl) (by kernel_rfl) ?_
  (try simp only [putsOf, Act.put, List.setIfInBounds_toArray, List.set_cons_zero, List.set_cons_succ])
  refine wpAnyH_ready (rs := [74]) (by kernel_rfl) (by simp) (AllReadyH.cons rfl (fun K hK => ?_) AllReadyH.nil)
  go_simp
  refine (N2.out _).mono ?_
  rintro e wx ⟨rfl, bb⟩
  (try go_wp2_with fail)
  refine hK.out _ _ ?_ (fun hHeld => ?_)
  · (try dsimp only)
    first | exact KA.out _ (below_then hHeld.1 bb) | exact KA.out _ (below_new hHeld.1 _)
  clear hK K
  (try simp only [Act.put, List.setIfInBounds_toArray, List.set_cons_zero, List.set_cons_succ])
  refine wpAnyH_one (by kernel_rfl) (fun _ _ _ _ _ h => h) (by assumption) 75 2 (some 144) ?_ _ (by rfl) (by rfl) (by kernel_rfl) (by rfl) ?_ ?_
  rotate_left 1
  · intro W hSw
    (try dsimp only at hSw)
    go_simp
    (try with_reducible rfl)
  (try simp only [Act.put, List.setIfInBounds_toArray, List.set_cons_zero, List.set_cons_succ])
  refine wpAnyH_puts (by kernel_rfl) (fun _ _ _ _ _ h => h) (by assumption) [76] 1 [(some 145, .bool true)] (by kernel_rfl) (by kernel_rfl) ?_
  (try simp only [putsOf, Act.put, List.setIfInBounds_toArray, List.set_cons_zero, List.set_cons_succ])
  refine wpAnyH_one (by kernel_rfl) (fun _ _ _ _ _ h => h) (by assumption) 77 0 (some 0) ?_ _ (by rfl) (by rfl) (by kernel_rfl) (by rfl) ?_ ?_
  rotate_left 1
  · intro W hSw
    (try dsimp only at hSw)
    go_simp
    (try with_reducible rfl)
  (try simp only [Act.put, List.setIfInBounds_toArray, List.set_cons_zero])
  refine wpAnyH_done (by kernel_rfl) ?_ _
  refine NoPanic.normal ?_
  (try simp only [Act.put, List.setIfInBounds_toArray, List.set_cons_zero])
  have HZ := Lib.hid (below_then HBF.out hHeld.1)
  go_wp2_with fail
  go_ret
  exact ⟨rfl, HZ.out⟩
end Go.Proofs.Ytogfnjlhfbpneaa
