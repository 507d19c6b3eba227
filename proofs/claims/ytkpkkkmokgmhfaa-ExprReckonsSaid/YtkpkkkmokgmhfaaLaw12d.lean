/- Whatever two numbers come in, and however often the first one is doubled: ExprReckons answers true: numbers are reckoned with as numbers are. No condition. -/
import Derived.Test.YtkpkkkmokgmhfaaRows
import Derived.Test.YtkpkkkmokgmhfaaLaw
import Derived.Test.YtkpkkkmokgmhfaaExpAwake
import Derived.Deep.RegionHeld3
import Derived.Deep.RegionWith
import Derived.Laws.NewBlocks
import Derived.Deep.DeepCutAuto
import Derived.Deep.CutBlock
import Derived.Test.YtkpkkkmokgmhfaaExpOpen
import Derived.Test.YtkpkkkmokgmhfaaExpEx
namespace Go.Proofs.Ytkpkkkmokgmhfaa.exprReckons
open Go.ChangeShapes Go.WideShapes Go.ChangeAt Go.RowKit Go.ChangeMaps

theorem heap_at {w : World} {o : Obj} {g : Nat} (h : w.heap.size = g) : (w.alloc o).heap[g]? = some o := by subst h; exact heap_alloc_new _ _
theorem heap_past {w : World} {o : Obj} {g : Nat} {x : Option Obj} (h : g < w.heap.size) (hx : w.heap[g]? = x) : (w.alloc o).heap[g]? = x := by rw [Below.heap_alloc _ _ _ h]; exact hx
theorem heap_drew {w : World} {g : Nat} {x : Option Obj} (hx : w.heap[g]? = x) : w.drew.heap[g]? = x := hx
theorem use_row2 {w w' : World} {g : Nat} {o : Obj} {C : Prop} (bb : Below w.heap.size w w') (h : w.heap[g]? = some o) (k : w'.heap[g]? = some o → g < w.heap.size → C) : C := k (row_below h bb) (Array.getElem?_eq_some_iff.1 h).1
theorem at_world {K : Act → World → Prop} {Q : Exit → Act → World → Prop} {a : Act} {Z : World} (i j : Nat) {g h : Nat} (_hi : a.tmps.getD i undef = .pointer (some ⟨g, 0, none⟩)) (_hj : a.tmps.getD j undef = .pointer (some ⟨h, 0, none⟩)) (F : Nat → Nat → World → Prop)
    (h1 : F g h Z) (h2 : ∀ Z', F g h Z' → Exit.then K Q .normal a Z') : Exit.then K Q .normal a Z := h2 Z h1
theorem dbl_bound {k : Nat} (h : k ≤ 8) : (2147483648 : Int) * 2 ^ k ≤ 549755813888 := by
  have : ∀ j : Fin 9, (2147483648 : Int) * 2 ^ j.1 ≤ 549755813888 := by decide
  exact this ⟨k, by omega⟩
theorem dbl_step (k : Nat) : (2147483648 : Int) * 2 ^ (k + 1) = 2 * (2147483648 * 2 ^ k) := by rw [Int.pow_succ]; omega
theorem below_set3h {w0 w : World} {B g : Nat} {o : Obj} {x y z : Value} (_ : w.heap[g]? = some o) (h : Below B w0 w) (hg : B ≤ g) : Below B w0 (((w.setCell ⟨g, 0, none⟩ x).setCell ⟨g, 1, none⟩ y).setCell ⟨g, 2, none⟩ z) := below_set3 h hg
theorem wf_i32r {x : Int} (h : (Lit.int .i32 x).wf = true) : -2147483648 ≤ x ∧ x ≤ 2147483647 := by
  simpa [Lit.wf, IntKind.min, IntKind.max, IntKind.signed, IntKind.bits] using h
theorem hold_is {e : E6} {w : World} (h : ReadsE w e) {d : Bool} (he : evalE e [] = (truthV d, 0)) : Calls Try.prog 13 #[e.agg, .slice none 0 0] w fun r w' => r = .returned (.tuple #[.bool d, .int .i64 0]) ∧ Below w.heap.size w w' := by
  have := holds_any e none 0 0 [] w h (RdG.nil_ _) (by intro z hz; cases hz)
  rw [he] at this
  cases d <;> exact this
theorem less_is {x y : Int} {A : Option Addr} (hx : -1099511627776 ≤ x ∧ x ≤ 1099511627776) (hy : -1099511627776 ≤ y ∧ y ≤ 1099511627776) : evalE (twoE 6 A (numE x) (numE y)) [] = (truthV (decide (x < y)), 0) := by
  rw [eval_two (by decide) ⟨rfl, form_num hx⟩ ⟨rfl, form_num hy⟩ (says_lit _ _) (says_lit _ _)]; rfl
theorem same_is {x y : Int} {A : Option Addr} (hx : -1099511627776 ≤ x ∧ x ≤ 1099511627776) (hy : -1099511627776 ≤ y ∧ y ≤ 1099511627776) : evalE (twoE 5 A (numE x) (numE y)) [] = (truthV (decide (x = y)), 0) := by
  rw [eval_two (by decide) ⟨rfl, form_num hx⟩ ⟨rfl, form_num hy⟩ (says_lit _ _) (says_lit _ _)]
  have h : decide (numV x = numV y) = decide (x = y) := by
    by_cases h : x = y
    · rw [h, decide_eq_true rfl, decide_eq_true rfl]
    · rw [decide_eq_false h, decide_eq_false (fun e => h (by injection e))]
  rw [← h]; rfl
/-- what is wanted of the k-th -/
def wantZ (k : Nat) (x y : Int) : Int := if k = 0 then x + y else if k = 1 then x - y else IntKind.i64.wrap (x * y)
def fitsZ (k : Nat) (x y : Int) (g : Bool) : Bool := decide (wantZ k x y ≤ 1099511627776) && decide (-1099511627776 ≤ wantZ k x y) && (decide (k < 2) || !g)
theorem rk_says {k : Nat} (hk : k < 3) {x y : Int} {A : Option Addr} (hx : -1099511627776 ≤ x ∧ x ≤ 1099511627776) (hy : -1099511627776 ≤ y ∧ y ≤ 1099511627776) :
    evalE (twoE ((k : Int) + 2) A (numE x) (numE y)) [] = rkV (if k = 0 then x + y else if k = 1 then x - y else x * y) := by
  rw [eval_two (by omega) ⟨rfl, form_num hx⟩ ⟨rfl, form_num hy⟩ (says_lit _ _) (says_lit _ _)]
  match k, hk with
  | 0, _ => rfl
  | 1, _ => rfl
  | 2, _ => rfl
theorem rk_none {k : Nat} (hk : k < 3) {x : Int} {A : Option Addr} (hx : -1099511627776 ≤ x ∧ x ≤ 1099511627776) :
    evalE (twoE ((k : Int) + 2) A (numE x) (leafE 1 0 v0)) [] = (v0, 0) := by
  rw [eval_two (by omega) ⟨rfl, form_num hx⟩ ⟨rfl, form_nil⟩ (says_lit _ _) (says_lit _ _)]
  match k, hk with
  | 0, _ => rfl
  | 1, _ => rfl
  | 2, _ => rfl
/-- what comes of two, as the statement wants it -/
theorem rk_want {k : Nat} (hk : k < 3) {x y : Int} {g : Bool} (hg : g = true ↔ 1099511627776 < absZ (x * y)) :
    rkV (if k = 0 then x + y else if k = 1 then x - y else x * y) = if fitsZ k x y g = true then (numV (wantZ k x y), 0) else (v0, 20) := by
  have key : ∀ z : Int, rkV z = if z ≤ 1099511627776 ∧ -1099511627776 ≤ z then (numV z, 0) else (v0, 20) := fun z => by
    rw [rkV]
    by_cases h : z < -1099511627776 ∨ 1099511627776 < z
    · rw [if_pos h, if_neg (by omega)]
    · rw [if_neg h, if_pos (by omega)]
  rw [key]
  match k, hk with
  | 0, _ => simp [fitsZ, wantZ]
  | 1, _ => simp [fitsZ, wantZ]
  | 2, _ =>
    cases g with
    | true =>
      have := hg.1 rfl
      rw [absZ] at this
      simp only [fitsZ, wantZ]
      rw [if_neg (by simp; omega)]
      simp
    | false =>
      have h2 : ¬ 1099511627776 < absZ (x * y) := fun h => absurd (hg.2 h) (by decide)
      rw [absZ] at h2
      have hw : IntKind.i64.wrap (x * y) = x * y := wrap_is (by omega)
      simp [fitsZ, wantZ, hw]
theorem great_iff {x y : Int} (h0 : ¬ y = 0) : 1099511627776 / absZ y < absZ x ↔ 1099511627776 < absZ (x * y) := by
  rw [abs_div h0, abs_mul, Int.mul_comm]
theorem val3_of {k : Nat} (h : k < 3) {W : World} {b : Nat} {f : Nat → Int} {ty : TypeId} (hr : W.heap[b]? = some (.cells #[.int .i64 (f 0), .int .i64 (f 1), .int .i64 (f 2)] ty)) : W.cell? ⟨b, k, none⟩ = some (.int .i64 (f k)) := by
  rw [cell_row hr]
  match k, h with
  | 0, _ => rfl
  | 1, _ => rfl
  | 2, _ => rfl

set_option maxRecDepth 100000 in
set_option maxHeartbeats 51200000 in
theorem walk (a b t : Int) (w : World) (ha : -2147483648 ≤ a ∧ a ≤ 2147483647) (hb : -2147483648 ≤ b ∧ b ≤ 2147483647) (ht : 0 ≤ t ∧ t ≤ 255) : Calls Try.prog 6 #[.int .i32 a, .int .i32 b, .int .u8 t] w fun r w' => r = .returned (.bool true) ∧ Below w.heap.size w w' := by
  have q0 : IntKind.i64.wrap a = a := wrap_is (by omega)
  have q1 : IntKind.i64.wrap b = b := wrap_is (by omega)
  obtain ⟨m, hm, hm9⟩ : ∃ m : Nat, t.tmod 9 = (m : Int) ∧ m ≤ 8 := by
    have h1 := Int.tmod_nonneg 9 ht.1
    have h2 := Int.tmod_lt_of_pos t (show (0 : Int) < 9 by decide)
    exact ⟨(t.tmod 9).toNat, by omega, by omega⟩
  have q2 : IntKind.i64.wrap (t.tmod 9) = (m : Int) := by rw [hm]; exact wrap_is (by omega)
  have q3 : IntKind.i64.wrap (m : Int) = (m : Int) := wrap_is (by omega)
  go_enter Try.func6, Try.ntmps6
  go_wp2_with fail
  refine (awake12_any _).mono ?_
  rintro r1 w1 ⟨rfl, b1⟩
  have HB1 := Lib.hid b1
  clear b1
  go_wp2_with fail
  go_loopw [9, 8] (fun i xv wr => ∃ (k : Nat) (z c : Int), k ≤ m ∧ i = .int .i64 k ∧ xv = .int .i64 z ∧ Hid (c = 2147483648 * 2 ^ k) ∧ -c ≤ z ∧ z ≤ c ∧ wr = w1) (fun i _ _ => m - (intOf i).toNat)
  case atStart => exact ⟨0, a, 2147483648, Nat.zero_le _, rfl, rfl, Lib.hid (by decide), by omega, by omega, rfl⟩
  case round =>
    obtain ⟨k, x, c, hk, rfl, rfl, hc, hx1, hx2, rfl⟩ := hrel
    have hcb : c ≤ 549755813888 := by rw [hc.out]; exact dbl_bound (by omega)
    have HS : Hid (2 * c = 2147483648 * 2 ^ (k + 1)) := by show _ = _; rw [dbl_step, ← hc.out]
    clear hc
    by_cases hlt : k < m
    · have y1 : (k : Int) < (m : Int) := by omega
      have y2 : IntKind.i64.wrap (x * 2) = x * 2 := wrap_is (by omega)
      go_wp2_with fail
      exact ⟨⟨k + 1, x * 2, 2 * c, by omega, by go_num, by first | rfl | trivial, HS, by omega, by omega, by first | rfl | trivial⟩, by simp [intOf]; omega⟩
    obtain rfl : k = m := by omega
    have y1 : ¬ (k : Int) < (k : Int) := by omega
    have hX : -549755813888 ≤ x ∧ x ≤ 549755813888 := by omega
    clear HS hcb hx1 hx2 hk hlt hm hm9 ht ha q0
    have y2 : ¬ 1099511627776 < x := by omega
    have y3 : ¬ x < -1099511627776 := by omega
    have y4 : IntKind.i64.wrap (x + b) = x + b := wrap_is (by omega)
    have y5 : IntKind.i64.wrap (x - b) = x - b := wrap_is (by omega)
    obtain ⟨p, hp⟩ : ∃ p, IntKind.i64.wrap (x * b) = p := ⟨_, rfl⟩
    go_upto_region 12 with fail
    obtain ⟨w2, hw2⟩ : ∃ V, V = ((wr.alloc (.cells #[.int .i64 2, .int .i64 3, .int .i64 4] 3)).alloc (.cells #[.int .i64 (x + b), .int .i64 (x - b), .int .i64 p] 3)) := ⟨_, rfl⟩
    have HW := Lib.hid hw2
    have HL : Hid (w2.heap[wr.heap.size]? = some (.cells #[.int .i64 2, .int .i64 3, .int .i64 4] 3)) := by rw [hw2]; exact old_row _ (new_row _ _ rfl)
    have HT : Hid (w2.heap[wr.heap.size + 1]? = some (.cells #[.int .i64 (x + b), .int .i64 (x - b), .int .i64 p] 3)) := by rw [hw2]; exact new_row _ _ (by simp only [World.size_alloc])
    have HB2 := Lib.hid (below_then HB1.out (show Below wr.heap.size wr w2 by rw [hw2]; exact below_new (below_new (Below.refl _ _) _) _))
    rw [← HW.out]
    clear HW hw2 HB1 y4 y5 q1 q2 q3 y1
    generalize wr.heap.size + 1 = gt at HT ⊢
    generalize wr.heap.size = gl at HL ⊢
    obtain ⟨g, hg⟩ : ∃ g : Bool, Hid (g = true ↔ 1099511627776 < absZ (x * b)) := ⟨decide (1099511627776 < absZ (x * b)), by show _ ↔ _; simp⟩
    obtain ⟨u, hu⟩ : ∃ u : Bool, Hid (u = (!decide (x = 0) && !decide (b = 0))) := ⟨_, rfl⟩
    go_cut [13] from 58 to 63 (fun z wz => z = .bool u ∧ wz = w2)
    case first =>
      clear HL HT HB2 hp hg
      by_cases h0 : x = 0
      · have e0 : u = false := by rw [hu.out, h0]; rfl
        have e1 : (x != 0) = false := by rw [h0]; rfl
        clear h0
        go_wp2_with fail
        go_meet
        exact ⟨by rw [e0], rfl⟩
      · have e1 : (x != 0) = true := by have q := beq_no h0; simp [bne, q]
        by_cases h1 : b = 0
        · have e0 : u = false := by rw [hu.out, h1]; simp
          have e2 : (b != 0) = false := by rw [h1]; rfl
          clear h0 h1
          go_wp2_with fail
          go_meet
          exact ⟨by rw [e0], rfl⟩
        · have e0 : u = true := by rw [hu.out]; simp [h0, h1]
          have e2 : (b != 0) = true := by have q := beq_no h1; simp [bne, q]
          clear h0 h1
          go_wp2_with fail
          go_meet
          exact ⟨by rw [e0], rfl⟩
    case rest =>
    obtain ⟨rfl, rfl⟩ := hcut
    go_upto_if 64 with fail
    go_cut [13] from 65 to 74 (fun z wz => z = .bool g ∧ wz = wc)
    case first =>
      clear HL HT HB2 hp
      by_cases h01 : x = 0 ∨ b = 0
      · have e0 : g = false := by
          cases g with
          | false => rfl
          | true =>
            have h := hg.out.1 rfl
            rcases h01 with h0 | h0
            · rw [h0, Int.zero_mul, absZ] at h; omega
            · rw [h0, Int.mul_zero, absZ] at h; omega
        have e1 : u = false := by rw [hu.out]; rcases h01 with h0 | h0 <;> simp [h0]
        subst e1
        clear h01 hg hu
        go_wp2_with fail
        go_meet
        exact ⟨by rw [e0], rfl⟩
      · have h0 : ¬ x = 0 := fun h => h01 (.inl h)
        have h1 : ¬ b = 0 := fun h => h01 (.inr h)
        · have e1 : u = true := by rw [hu.out]; simp [h0, h1]
          subst e1
          clear hu h01
          have n1 : IntKind.i64.wrap (-x) = -x := wrap_is (by omega)
          have n2 : IntKind.i64.wrap (-b) = -b := wrap_is (by omega)
          have GI := Lib.hid (great_iff (x := x) h1)
          have hgx : g = decide (1099511627776 / absZ b < absZ x) := by
            have h := hg.out.trans GI.out.symm
            by_cases hd : 1099511627776 / absZ b < absZ x
            · rw [decide_eq_true hd]; exact h.2 hd
            · rw [decide_eq_false hd]
              cases g with
              | false => rfl
              | true => exact absurd (h.1 rfl) hd
          have HGX := Lib.hid hgx
          have z0 : ¬ max b (-b) = 0 := by omega
          clear hg GI hgx
          by_cases s1 : x < -x <;> by_cases s2 : b < -b
          all_goals
            go_wp2_with fail
            go_meet
            exact ⟨by rw [HGX.out]; rfl, rfl⟩
    case rest =>
    obtain ⟨rfl, rfl⟩ := hcut
    clear hu
    have hxM : -1099511627776 ≤ x ∧ x ≤ 1099511627776 := by omega
    have hbM : -1099511627776 ≤ b ∧ b ≤ 1099511627776 := by omega
    have HRK : Hid (∀ (j : Nat) (A : Option Addr), j < 3 → evalE (twoE ((j : Int) + 2) A (numE x) (numE b)) [] = if fitsZ j x b g = true then (numV (wantZ j x b), 0) else (v0, 20)) := fun j A hj => (rk_says hj hxM hbM).trans (rk_want hj hg.out)
    have HRN : Hid (∀ (j : Nat) (A : Option Addr), j < 3 → evalE (twoE ((j : Int) + 2) A (numE x) (leafE 1 0 v0)) [] = (v0, 0)) := fun j A hj => rk_none hj hxM
    rw [← hp] at HT
    clear hp hg
    go_wp2_with fail
    go_loopw [14] (fun i wr => ∃ j : Nat, j ≤ 3 ∧ i = .int .i64 j ∧ Hid (wr.heap[gl]? = some (.cells #[.int .i64 2, .int .i64 3, .int .i64 4] 3)) ∧ Hid (wr.heap[gt]? = some (.cells #[.int .i64 (x + b), .int .i64 (x - b), .int .i64 (IntKind.i64.wrap (x * b))] 3)) ∧ Hid (Below w.heap.size w wr)) (fun i _ => 3 - (intOf i).toNat)
    case atStart => exact ⟨0, by omega, rfl, HL, HT, HB2⟩
    case round =>
      clear HL HT HB2
      obtain ⟨j, hj, rfl, HL, HT, HB2⟩ := hrel
      by_cases hlt : j < 3
      · have LJ : Hid (wr.cell? ⟨gl, j, none⟩ = some (.int .i64 ((j : Int) + 2))) := val3_of (f := fun q => (q : Int) + 2) hlt HL.out
        have z1 : (j : Int) < 3 := by omega
        have z0 : (0 : Int) ≤ (j : Int) := by omega
        obtain ⟨y, hy⟩ : ∃ y : V3 × Int, Hid ((if fitsZ j x b g = true then (numV (wantZ j x b), 0) else (v0, 20)) = y) := ⟨_, rfl⟩
        obtain ⟨yv, ye⟩ := y
        have HE : Hid (∀ A : Option Addr, evalE (twoE ((j : Int) + 2) A (numE x) (numE b)) [] = (yv, ye)) := fun A => (HRK.out j A hlt).trans hy.out
        have HN : Hid (∀ A : Option Addr, evalE (twoE ((j : Int) + 2) A (numE x) (leafE 1 0 v0)) [] = (v0, 0)) := fun A => HRN.out j A hlt
        go_upto_region 18 with fail
        go_cut [15, 16] from 79 to 91 (fun s z wz => ∃ gd, s = .pointer (some ⟨gd, 0, none⟩) ∧ z = .int .i64 ye ∧ Hid (wz.heap[gd]? = some (valBox yv)) ∧ Hid (Below wr.heap.size wr wz))
        case first =>
          have hS0 : Below wr.heap.size wr wr ∧ wr.cell? ⟨gl, j, none⟩ = some (.int .i64 ((j : Int) + 2)) := ⟨Below.refl _ _, LJ.out⟩
          have K : Hid (∀ W W' : World, (Below wr.heap.size wr W ∧ W.cell? ⟨gl, j, none⟩ = some (.int .i64 ((j : Int) + 2))) → Below W.heap.size W W' → (Below wr.heap.size wr W' ∧ W'.cell? ⟨gl, j, none⟩ = some (.int .i64 ((j : Int) + 2)))) := by
            rintro W W' ⟨kk, k0⟩ hb
            exact ⟨below_then kk hb, (hb.cell (World.block_lt_of_cell? _ _ k0)).trans k0⟩
          have KA : Hid (∀ W, Below wr.heap.size wr W → (Below wr.heap.size wr W ∧ W.cell? ⟨gl, j, none⟩ = some (.int .i64 ((j : Int) + 2)))) := fun W hb => K.out _ _ hS0 hb
          have BX := Lib.hid (Below.refl wr.heap.size wr)
          have HZG := Lib.hid (Nat.le_refl wr.heap.size)
          have m1 : True := trivial
          have m2 : True := trivial
          have m3 : True := trivial
          have m4 : True := trivial
          clear HL HT LJ
          go_region_held3 (fun W => Below wr.heap.size wr W ∧ W.cell? ⟨gl, j, none⟩ = some (.int .i64 ((j : Int) + 2)))
            (first
              | with_reducible exact K.out _ _ hS0 ((Below.refl _ _).drew)
              | with_reducible exact KA.out _ (below_new BX.out _)
              | with_reducible exact KA.out _ (below_set3 BX.out HZG.out)
              | with_reducible exact KA.out _ BX.out
              | with_reducible exact KA.out _ (below_new (Below.refl _ _) _)
              | with_reducible exact KA.out _ (below_new (Below.refl _ _) _).drew
              | with_reducible exact KA.out _ (below_new (Below.refl _ _).drew _)
              | with_reducible assumption
              | fail "S?")
            (first
            | (go_at_call 24
               clear m1
               refine (num_any _ _).mono ?_
               rintro e wq1 ⟨rfl, bb⟩
               have bx : Below wr.heap.size wr wq1 := below_then (by first | exact Below.refl _ _ | exact (Below.refl _ _).drew | (go_split_ands; assumption)) bb
               first
               | (have hz9 := Lib.hid (row_below HZ.out bb); clear HZ; have HZ := hz9; clear hz9)
               | (refine use_row2 (g := wr.heap.size) (o := (.cells #[.int .i64 0, .int .i64 0, .string ⟨#[]⟩] 23)) bb ?hrow (fun rr hlt => ?_)
                  case hrow =>
                    repeat (first | assumption | (with_reducible refine heap_at ?_; first | done | omega | (simp only [World.size_alloc]; omega)) | with_reducible refine heap_drew ?_ | (with_reducible refine heap_past ?_ ?_; focus (first | done | omega | (simp only [World.size_alloc]; omega))))
                    done
                  have HZ := Lib.hid rr
                  replace HZG := Lib.hid (show wr.heap.size ≤ wr.heap.size from Nat.le_refl _)
                  clear rr hlt)
               | skip
               replace BX := Lib.hid bx
               clear bx bb)
            | (go_at_call 24
               clear m2
               refine (num_any _ _).mono ?_
               rintro e wq2 ⟨rfl, bb⟩
               have bx : Below wr.heap.size wr wq2 := below_then (by first | exact Below.refl _ _ | exact (Below.refl _ _).drew | (go_split_ands; assumption)) bb
               first
               | (have hz9 := Lib.hid (row_below HZ.out bb); clear HZ; have HZ := hz9; clear hz9)
               | (refine use_row2 (g := wq1.heap.size) (o := (.cells #[.int .i64 0, .int .i64 0, .string ⟨#[]⟩] 23)) bb ?hrow (fun rr hlt => ?_)
                  case hrow =>
                    repeat (first | assumption | (with_reducible refine heap_at ?_; first | done | omega | (simp only [World.size_alloc]; omega)) | with_reducible refine heap_drew ?_ | (with_reducible refine heap_past ?_ ?_; focus (first | done | omega | (simp only [World.size_alloc]; omega))))
                    done
                  have HZ := Lib.hid rr
                  replace HZG := Lib.hid (show wr.heap.size ≤ wq1.heap.size from BX.out.size)
                  clear rr hlt)
               | skip
               replace BX := Lib.hid bx
               clear bx bb)
            | (go_at_call 23
               clear m3
               refine (of_any ((j : Int) + 2) (numE x) (numE b) _ (ReadsE.none_ _ _ _ _) (ReadsE.none_ _ _ _ _)).mono ?_
               rintro e wq3 ⟨A1, rfl, hri, bb⟩
               have bx : Below wr.heap.size wr wq3 := below_then (by first | exact Below.refl _ _ | exact (Below.refl _ _).drew | (go_split_ands; assumption)) bb
               have RL := Lib.hid hri
               clear hri
               first
               | (have hz9 := Lib.hid (row_below HZ.out bb); clear HZ; have HZ := hz9; clear hz9)
               | (refine use_row2 (g := wq2.heap.size) (o := (.cells #[.int .i64 0, .int .i64 0, .string ⟨#[]⟩] 23)) bb ?hrow (fun rr hlt => ?_)
                  case hrow =>
                    repeat (first | assumption | (with_reducible refine heap_at ?_; first | done | omega | (simp only [World.size_alloc]; omega)) | with_reducible refine heap_drew ?_ | (with_reducible refine heap_past ?_ ?_; focus (first | done | omega | (simp only [World.size_alloc]; omega))))
                    done
                  have HZ := Lib.hid rr
                  replace HZG := Lib.hid (show wr.heap.size ≤ wq2.heap.size from BX.out.size)
                  clear rr hlt)
               | skip
               replace BX := Lib.hid bx
               clear bx bb)
            | (go_at_call 11
               clear m4
               refine (eval_is (by first | exact RL.out | exact RL.out.keep (below_new (Below.refl _ _) _) | exact RL.out.keep (below_new (Below.refl _ _) _).drew) (RdG.nil_ _) (by intro z hz; cases hz) (HE.out A1)).mono ?_
               rintro e wq4 ⟨rfl, bb⟩
               have bx : Below wr.heap.size wr wq4 := below_then (by first | exact Below.refl _ _ | exact (Below.refl _ _).drew | (go_split_ands; assumption)) bb
               first
               | (have hz9 := Lib.hid (row_below HZ.out bb); clear HZ; have HZ := hz9; clear hz9)
               | (refine use_row2 (g := wq3.heap.size) (o := (.cells #[.int .i64 0, .int .i64 0, .string ⟨#[]⟩] 23)) bb ?hrow (fun rr hlt => ?_)
                  case hrow =>
                    repeat (first | assumption | (with_reducible refine heap_at ?_; first | done | omega | (simp only [World.size_alloc]; omega)) | with_reducible refine heap_drew ?_ | (with_reducible refine heap_past ?_ ?_; focus (first | done | omega | (simp only [World.size_alloc]; omega))))
                    done
                  have HZ := Lib.hid rr
                  replace HZG := Lib.hid (show wr.heap.size ≤ wq3.heap.size from BX.out.size)
                  clear rr hlt)
               | skip
               replace BX := Lib.hid bx
               clear bx bb
               (try (obtain ⟨q0, q1, q2⟩ := (⟨cell_row HZ.out 0, cell_row HZ.out 1, cell_row HZ.out 2⟩ : _ ∧ _ ∧ _); have f0 := frozen_row HZ.out))))
          all_goals
            first
              | (fail_if_success (have hq9 := HZ)
                 have T1 := Lib.hid (heap_alloc_new wq4 (valBox yv))
                 have T3 := Lib.hid (below_new BX.out (valBox yv))
                 refine at_world 15 15 rfl rfl (fun gd _ Z => Hid (Z.heap[gd]? = some (valBox yv)) ∧ Hid (Below wr.heap.size wr Z)) ⟨T1, T3⟩ ?_
                 rintro Z ⟨y1, y3⟩
                 go_wp2_with fail
                 go_meet
                 exact ⟨_, rfl, rfl, y1, y3⟩)
              | (have T1 := Lib.hid (set3 (x := .int .i64 yv.k) (y := .int .i64 yv.n) (z := .string yv.s) HZ.out)
                 have T3 := Lib.hid (below_set3h (x := .int .i64 yv.k) (y := .int .i64 yv.n) (z := .string yv.s) HZ.out BX.out HZG.out)
                 clear q0 q1 q2 f0
                 refine at_world 15 15 rfl rfl (fun gd _ Z => Hid (Z.heap[gd]? = some (valBox yv)) ∧ Hid (Below wr.heap.size wr Z)) ⟨T1, T3⟩ ?_
                 rintro Z ⟨y1, y3⟩
                 go_wp2_with fail
                 go_meet
                 exact ⟨_, rfl, rfl, y1, y3⟩)
        case rest =>
        obtain ⟨gRV, rfl, rfl, hRV, hbb⟩ := hcut
        have RV := hRV
        have bb := hbb.out
        replace HL := Lib.hid (row_below HL.out bb)
        replace HT := Lib.hid (row_below HT.out bb)
        replace LJ : Hid (wc.cell? ⟨gl, j, none⟩ = some (.int .i64 ((j : Int) + 2))) := (bb.cell (World.block_lt_of_cell? _ _ LJ.out)).trans LJ.out
        replace HB2 := Lib.hid (below_then HB2.out bb)
        clear bb hbb hRV
        generalize wc = wa at HL HT LJ HB2 RV  ⊢
        go_upto_region 19 with fail
        go_cut [17, 18] from 92 to 103 (fun s z wz => ∃ gd, s = .pointer (some ⟨gd, 0, none⟩) ∧ z = .int .i64 0 ∧ Hid (wz.heap[gd]? = some (valBox v0)) ∧ Hid (Below wa.heap.size wa wz))
        case first =>
          have hS0 : Below wa.heap.size wa wa ∧ wa.cell? ⟨gl, j, none⟩ = some (.int .i64 ((j : Int) + 2)) := ⟨Below.refl _ _, LJ.out⟩
          have K : Hid (∀ W W' : World, (Below wa.heap.size wa W ∧ W.cell? ⟨gl, j, none⟩ = some (.int .i64 ((j : Int) + 2))) → Below W.heap.size W W' → (Below wa.heap.size wa W' ∧ W'.cell? ⟨gl, j, none⟩ = some (.int .i64 ((j : Int) + 2)))) := by
            rintro W W' ⟨kk, k0⟩ hb
            exact ⟨below_then kk hb, (hb.cell (World.block_lt_of_cell? _ _ k0)).trans k0⟩
          have KA : Hid (∀ W, Below wa.heap.size wa W → (Below wa.heap.size wa W ∧ W.cell? ⟨gl, j, none⟩ = some (.int .i64 ((j : Int) + 2)))) := fun W hb => K.out _ _ hS0 hb
          have BX := Lib.hid (Below.refl wa.heap.size wa)
          have HZG := Lib.hid (Nat.le_refl wa.heap.size)
          have m1 : True := trivial
          have m2 : True := trivial
          have m3 : True := trivial
          clear HL HT LJ RV
          go_region_held3 (fun W => Below wa.heap.size wa W ∧ W.cell? ⟨gl, j, none⟩ = some (.int .i64 ((j : Int) + 2)))
            (first
              | with_reducible exact K.out _ _ hS0 ((Below.refl _ _).drew)
              | with_reducible exact KA.out _ (below_new BX.out _)
              | with_reducible exact KA.out _ (below_set3 BX.out HZG.out)
              | with_reducible exact KA.out _ BX.out
              | with_reducible exact KA.out _ (below_new (Below.refl _ _) _)
              | with_reducible exact KA.out _ (below_new (Below.refl _ _) _).drew
              | with_reducible exact KA.out _ (below_new (Below.refl _ _).drew _)
              | with_reducible assumption
              | fail "S?")
            (first
            | (go_at_call 24
               clear m1
               refine (num_any _ _).mono ?_
               rintro e wq1 ⟨rfl, bb⟩
               have bx : Below wa.heap.size wa wq1 := below_then (by first | exact Below.refl _ _ | exact (Below.refl _ _).drew | (go_split_ands; assumption)) bb
               first
               | (have hz9 := Lib.hid (row_below HZ.out bb); clear HZ; have HZ := hz9; clear hz9)
               | (refine use_row2 (g := wa.heap.size) (o := (.cells #[.int .i64 0, .int .i64 0, .string ⟨#[]⟩] 23)) bb ?hrow (fun rr hlt => ?_)
                  case hrow =>
                    repeat (first | assumption | (with_reducible refine heap_at ?_; first | done | omega | (simp only [World.size_alloc]; omega)) | with_reducible refine heap_drew ?_ | (with_reducible refine heap_past ?_ ?_; focus (first | done | omega | (simp only [World.size_alloc]; omega))))
                    done
                  have HZ := Lib.hid rr
                  replace HZG := Lib.hid (show wa.heap.size ≤ wa.heap.size from Nat.le_refl _)
                  clear rr hlt)
               | skip
               replace BX := Lib.hid bx
               clear bx bb)
            | (go_at_call 23
               clear m2
               refine (of_any ((j : Int) + 2) (numE x) (leafE 1 0 v0) _ (ReadsE.none_ _ _ _ _) (ReadsE.none_ _ _ _ _)).mono ?_
               rintro e wq2 ⟨A1, rfl, hri, bb⟩
               have bx : Below wa.heap.size wa wq2 := below_then (by first | exact Below.refl _ _ | exact (Below.refl _ _).drew | (go_split_ands; assumption)) bb
               have RL := Lib.hid hri
               clear hri
               first
               | (have hz9 := Lib.hid (row_below HZ.out bb); clear HZ; have HZ := hz9; clear hz9)
               | (refine use_row2 (g := wq1.heap.size) (o := (.cells #[.int .i64 0, .int .i64 0, .string ⟨#[]⟩] 23)) bb ?hrow (fun rr hlt => ?_)
                  case hrow =>
                    repeat (first | assumption | (with_reducible refine heap_at ?_; first | done | omega | (simp only [World.size_alloc]; omega)) | with_reducible refine heap_drew ?_ | (with_reducible refine heap_past ?_ ?_; focus (first | done | omega | (simp only [World.size_alloc]; omega))))
                    done
                  have HZ := Lib.hid rr
                  replace HZG := Lib.hid (show wa.heap.size ≤ wq1.heap.size from BX.out.size)
                  clear rr hlt)
               | skip
               replace BX := Lib.hid bx
               clear bx bb)
            | (go_at_call 11
               clear m3
               refine (eval_is (by first | exact RL.out | exact RL.out.keep (below_new (Below.refl _ _) _) | exact RL.out.keep (below_new (Below.refl _ _) _).drew) (RdG.nil_ _) (by intro z hz; cases hz) (HN.out A1)).mono ?_
               rintro e wq3 ⟨rfl, bb⟩
               have bx : Below wa.heap.size wa wq3 := below_then (by first | exact Below.refl _ _ | exact (Below.refl _ _).drew | (go_split_ands; assumption)) bb
               first
               | (have hz9 := Lib.hid (row_below HZ.out bb); clear HZ; have HZ := hz9; clear hz9)
               | (refine use_row2 (g := wq2.heap.size) (o := (.cells #[.int .i64 0, .int .i64 0, .string ⟨#[]⟩] 23)) bb ?hrow (fun rr hlt => ?_)
                  case hrow =>
                    repeat (first | assumption | (with_reducible refine heap_at ?_; first | done | omega | (simp only [World.size_alloc]; omega)) | with_reducible refine heap_drew ?_ | (with_reducible refine heap_past ?_ ?_; focus (first | done | omega | (simp only [World.size_alloc]; omega))))
                    done
                  have HZ := Lib.hid rr
                  replace HZG := Lib.hid (show wa.heap.size ≤ wq2.heap.size from BX.out.size)
                  clear rr hlt)
               | skip
               replace BX := Lib.hid bx
               clear bx bb
               (try (obtain ⟨q0, q1, q2⟩ := (⟨cell_row HZ.out 0, cell_row HZ.out 1, cell_row HZ.out 2⟩ : _ ∧ _ ∧ _); have f0 := frozen_row HZ.out))))
          all_goals
            first
              | (fail_if_success (have hq9 := HZ)
                 have T1 := Lib.hid (heap_alloc_new wq3 (valBox v0))
                 have T3 := Lib.hid (below_new BX.out (valBox v0))
                 refine at_world 17 17 rfl rfl (fun gd _ Z => Hid (Z.heap[gd]? = some (valBox v0)) ∧ Hid (Below wa.heap.size wa Z)) ⟨T1, T3⟩ ?_
                 rintro Z ⟨y1, y3⟩
                 go_wp2_with fail
                 go_meet
                 exact ⟨_, rfl, rfl, y1, y3⟩)
              | (have T1 := Lib.hid (set3 (x := .int .i64 v0.k) (y := .int .i64 v0.n) (z := .string v0.s) HZ.out)
                 have T3 := Lib.hid (below_set3h (x := .int .i64 v0.k) (y := .int .i64 v0.n) (z := .string v0.s) HZ.out BX.out HZG.out)
                 clear q0 q1 q2 f0
                 refine at_world 17 17 rfl rfl (fun gd _ Z => Hid (Z.heap[gd]? = some (valBox v0)) ∧ Hid (Below wa.heap.size wa Z)) ⟨T1, T3⟩ ?_
                 rintro Z ⟨y1, y3⟩
                 go_wp2_with fail
                 go_meet
                 exact ⟨_, rfl, rfl, y1, y3⟩)
        case rest =>
        obtain ⟨gRN, rfl, rfl, hRN, hbb⟩ := hcut
        have RN := hRN
        have bb := hbb.out
        replace HL := Lib.hid (row_below HL.out bb)
        replace HT := Lib.hid (row_below HT.out bb)
        replace LJ : Hid (wc.cell? ⟨gl, j, none⟩ = some (.int .i64 ((j : Int) + 2))) := (bb.cell (World.block_lt_of_cell? _ _ LJ.out)).trans LJ.out
        replace RV := Lib.hid (row_below RV.out bb)
        replace HB2 := Lib.hid (below_then HB2.out bb)
        clear bb hbb hRN
        generalize wc = wb at HL HT LJ HB2 RN RV ⊢
        have LT : Hid (wb.cell? ⟨gt, j, none⟩ = some (.int .i64 (wantZ j x b))) := val3_of (f := fun q => wantZ q x b) hlt HT.out
        obtain ⟨f, hf⟩ : ∃ f, Hid (fitsZ j x b g = f) := ⟨_, rfl⟩
        have hf2 : Hid ((decide (wantZ j x b ≤ 1099511627776) && decide (-1099511627776 ≤ wantZ j x b) && (decide (j < 2) || !g)) = f) := hf
        rw [hf.out] at hy
        obtain ⟨z, hz⟩ : ∃ z, wantZ j x b = z := ⟨_, rfl⟩
        rw [hz] at LT hy hf2
        clear hz hf HE HN LJ
        go_upto_region 20 with fail
        go_cut [19] from 104 to 123 (fun s wz => s = .bool f ∧ wz = wb)
        case first =>
          have d0 := LT.out
          by_cases c1 : z ≤ 1099511627776
          · by_cases c2 : -1099511627776 ≤ z
            · by_cases c3 : (j : Int) < 2
              · have e0 : f = true := by rw [← hf2.out, decide_eq_true c1, decide_eq_true c2, decide_eq_true (show j < 2 by omega)]; rfl
                clear hy hf2
                go_wp2_with fail
                go_meet
                exact ⟨by rw [e0], rfl⟩
              · have e0 : f = !g := by rw [← hf2.out, decide_eq_true c1, decide_eq_true c2, decide_eq_false (show ¬ j < 2 by omega)]; rfl
                clear hy hf2
                cases g <;>
                · go_wp2_with fail
                  go_meet
                  exact ⟨by rw [e0]; rfl, rfl⟩
            · have e0 : f = false := by rw [← hf2.out, decide_eq_false c2]; simp
              clear hy hf2
              go_wp2_with fail
              go_meet
              exact ⟨by rw [e0], rfl⟩
          · have e0 : f = false := by rw [← hf2.out, decide_eq_false c1]; simp
            clear hy hf2
            go_wp2_with fail
            go_meet
            exact ⟨by rw [e0], rfl⟩
        case rest =>
        obtain ⟨rfl, rfl⟩ := hcut
        cases f with
        | true =>
          obtain ⟨rfl, rfl⟩ : yv = numV z ∧ ye = 0 := by
            have h := hy.out
            rw [if_pos rfl] at h
            injection h with h1 h2
            exact ⟨h1.symm, h2.symm⟩
          clear hy hf2
          obtain ⟨v0_, v1_, v2_⟩ := valB_row RV.out
          obtain ⟨n0_, n1_, n2_⟩ := valB_row RN.out
          have dt := LT.out
          have k0 : ∀ p : BelowOf wc, p.W.cell? ⟨gRV, 0, none⟩ = _ := fun p => p.cell v0_
          have k1 : ∀ p : BelowOf wc, p.W.cell? ⟨gRV, 1, none⟩ = _ := fun p => p.cell v1_
          have k2 : ∀ p : BelowOf wc, p.W.cell? ⟨gRV, 2, none⟩ = _ := fun p => p.cell v2_
          have k3 : ∀ p : BelowOf wc, p.W.cell? ⟨gRN, 0, none⟩ = _ := fun p => p.cell n0_
          have k4 : ∀ p : BelowOf wc, p.W.cell? ⟨gRN, 1, none⟩ = _ := fun p => p.cell n1_
          have k5 : ∀ p : BelowOf wc, p.W.cell? ⟨gRN, 2, none⟩ = _ := fun p => p.cell n2_
          have k6 : ∀ p : BelowOf wc, p.W.cell? ⟨gt, j, none⟩ = _ := fun p => p.cell dt
          have EQ := fun W => run_eqV (numV z) (numV z) W
          have EN := fun W => run_eqV v0 v0 W
          rw [decide_eq_true rfl] at EN EQ
          clear v0_ v1_ v2_ n0_ n1_ n2_ dt
          go_upto_region 21 with fail
          refine wp_region_quiet_below (by kernel_rfl) (by kernel_rfl) ?_
          repeat (first | (with_reducible refine wpQuiet_step (fun K hK => ?_); go_simp; first | (with_reducible refine hK _ ?_; clear hK K) | (apply Exists.intro; with_reducible refine ⟨fun _ => ?_, hK _ ?_⟩; (fail); clear hK K)) | (with_reducible refine wpQuiet_pass (by kernel_rfl) ?_; (try simp only [Act.put, List.setIfInBounds_toArray, List.set_cons_zero, List.set_cons_succ])))
          with_reducible refine wpQuiet_nil ?_
          rintro wq ⟨⟨_, hq⟩, rfl⟩
          have HL2 := Lib.hid (row_below HL.out hq)
          have HT2 := Lib.hid (row_below HT.out hq)
          have HB3 := Lib.hid (below_then HB2.out hq)
          clear k0 k1 k2 k3 k4 k5 k6 EQ EN hq
          go_wp2_with fail
          exact ⟨⟨j + 1, by omega, by go_num, HL2, HT2, HB3⟩, by simp [intOf]; omega⟩
        | false =>
          obtain ⟨rfl, rfl⟩ : yv = v0 ∧ ye = 20 := by
            have h := hy.out
            rw [if_neg (by decide)] at h
            injection h with h1 h2
            exact ⟨h1.symm, h2.symm⟩
          clear hy hf2
          obtain ⟨v0_, v1_, v2_⟩ := valB_row RV.out
          obtain ⟨n0_, n1_, n2_⟩ := valB_row RN.out
          have dt := LT.out
          have k0 : ∀ p : BelowOf wc, p.W.cell? ⟨gRV, 0, none⟩ = _ := fun p => p.cell v0_
          have k1 : ∀ p : BelowOf wc, p.W.cell? ⟨gRV, 1, none⟩ = _ := fun p => p.cell v1_
          have k2 : ∀ p : BelowOf wc, p.W.cell? ⟨gRV, 2, none⟩ = _ := fun p => p.cell v2_
          have k3 : ∀ p : BelowOf wc, p.W.cell? ⟨gRN, 0, none⟩ = _ := fun p => p.cell n0_
          have k4 : ∀ p : BelowOf wc, p.W.cell? ⟨gRN, 1, none⟩ = _ := fun p => p.cell n1_
          have k5 : ∀ p : BelowOf wc, p.W.cell? ⟨gRN, 2, none⟩ = _ := fun p => p.cell n2_
          have k6 : ∀ p : BelowOf wc, p.W.cell? ⟨gt, j, none⟩ = _ := fun p => p.cell dt
          have EQ := fun W => run_eqV v0 (numV z) W
          have EN := fun W => run_eqV v0 v0 W
          rw [decide_eq_true rfl] at EN
          clear v0_ v1_ v2_ n0_ n1_ n2_ dt
          go_upto_region 21 with fail
          refine wp_region_quiet_below (by kernel_rfl) (by kernel_rfl) ?_
          repeat (first | (with_reducible refine wpQuiet_step (fun K hK => ?_); go_simp; first | (with_reducible refine hK _ ?_; clear hK K) | (apply Exists.intro; with_reducible refine ⟨fun _ => ?_, hK _ ?_⟩; (fail); clear hK K)) | (with_reducible refine wpQuiet_pass (by kernel_rfl) ?_; (try simp only [Act.put, List.setIfInBounds_toArray, List.set_cons_zero, List.set_cons_succ])))
          with_reducible refine wpQuiet_nil ?_
          rintro wq ⟨⟨_, hq⟩, rfl⟩
          have HL2 := Lib.hid (row_below HL.out hq)
          have HT2 := Lib.hid (row_below HT.out hq)
          have HB3 := Lib.hid (below_then HB2.out hq)
          clear k0 k1 k2 k3 k4 k5 k6 EQ EN hq
          go_wp2_with fail
          exact ⟨⟨j + 1, by omega, by go_num, HL2, HT2, HB3⟩, by simp [intOf]; omega⟩
      · obtain rfl : j = 3 := by omega
        have z1 : ¬ ((3 : Nat) : Int) < 3 := by decide
        clear HL HT hlt hj HRK HRN
        obtain ⟨d1, hd1⟩ : ∃ d, Hid (decide (x < b) = d) := ⟨_, rfl⟩
        obtain ⟨d2, hd2⟩ : ∃ d, Hid (decide (b < x) = d) := ⟨_, rfl⟩
        obtain ⟨d3, hd3⟩ : ∃ d, Hid (decide (x = b) = d) := ⟨_, rfl⟩
        have X1 : Hid (∀ A, evalE (twoE 6 A (numE x) (numE b)) [] = (truthV d1, 0)) := fun A => by rw [less_is hxM hbM, hd1.out]
        have X2 : Hid (∀ A, evalE (twoE 6 A (numE b) (numE x)) [] = (truthV d2, 0)) := fun A => by rw [less_is hbM hxM, hd2.out]
        have X3 : Hid (∀ A, evalE (twoE 5 A (numE x) (numE b)) [] = (truthV d3, 0)) := fun A => by rw [same_is hxM hbM, hd3.out]
        go_wp2_with fail
        refine (num_any x _).mono ?_
        rintro r1 w1a ⟨rfl, bb⟩
        replace HB2 := Lib.hid (below_then HB2.out bb)
        clear bb
        go_wp2_with fail
        refine (num_any b _).mono ?_
        rintro r1 w1b ⟨rfl, bb⟩
        replace HB2 := Lib.hid (below_then HB2.out bb)
        clear bb
        go_wp2_with fail
        refine (of_any 6 (numE x) (numE b) _ (ReadsE.none_ _ _ _ _) (ReadsE.none_ _ _ _ _)).mono ?_
        rintro r1 w1c ⟨A1, rfl, hri, bb⟩
        have RL1 := Lib.hid hri
        replace HB2 := Lib.hid (below_then HB2.out bb)
        clear bb hri
        go_wp2_with fail
        refine (hold_is RL1.out (X1.out A1)).mono ?_
        rintro r1 w1d ⟨rfl, bb⟩
        replace HB2 := Lib.hid (below_then HB2.out bb)
        clear bb RL1
        go_wp2_with fail
        refine (num_any b _).mono ?_
        rintro r2 w2a ⟨rfl, bb⟩
        replace HB2 := Lib.hid (below_then HB2.out bb)
        clear bb
        go_wp2_with fail
        refine (num_any x _).mono ?_
        rintro r2 w2b ⟨rfl, bb⟩
        replace HB2 := Lib.hid (below_then HB2.out bb)
        clear bb
        go_wp2_with fail
        refine (of_any 6 (numE b) (numE x) _ (ReadsE.none_ _ _ _ _) (ReadsE.none_ _ _ _ _)).mono ?_
        rintro r2 w2c ⟨A2, rfl, hri, bb⟩
        have RL2 := Lib.hid hri
        replace HB2 := Lib.hid (below_then HB2.out bb)
        clear bb hri
        go_wp2_with fail
        refine (hold_is RL2.out (X2.out A2)).mono ?_
        rintro r2 w2d ⟨rfl, bb⟩
        replace HB2 := Lib.hid (below_then HB2.out bb)
        clear bb RL2
        go_wp2_with fail
        refine (num_any x _).mono ?_
        rintro r3 w3a ⟨rfl, bb⟩
        replace HB2 := Lib.hid (below_then HB2.out bb)
        clear bb
        go_wp2_with fail
        refine (num_any b _).mono ?_
        rintro r3 w3b ⟨rfl, bb⟩
        replace HB2 := Lib.hid (below_then HB2.out bb)
        clear bb
        go_wp2_with fail
        refine (of_any 5 (numE x) (numE b) _ (ReadsE.none_ _ _ _ _) (ReadsE.none_ _ _ _ _)).mono ?_
        rintro r3 w3c ⟨A3, rfl, hri, bb⟩
        have RL3 := Lib.hid hri
        replace HB2 := Lib.hid (below_then HB2.out bb)
        clear bb hri
        go_wp2_with fail
        refine (hold_is RL3.out (X3.out A3)).mono ?_
        rintro r3 w3d ⟨rfl, bb⟩
        replace HB2 := Lib.hid (below_then HB2.out bb)
        clear bb RL3
        go_upto_region 26 with fail
        clear X1 X2 X3
        rcases Int.lt_trichotomy x b with h | h | h
        · obtain rfl : d1 = true := by rw [← hd1.out, decide_eq_true h]
          obtain rfl : d2 = false := by rw [← hd2.out, decide_eq_false (by omega)]
          obtain rfl : d3 = false := by rw [← hd3.out, decide_eq_false (by omega)]
          have e1 : (x == b) = false := beq_no (by omega)
          have e2 : ¬ b < x := by omega
          clear hd1 hd2 hd3
          go_wp2_with fail
          go_ret
          exact ⟨by first | rfl | simp, HB2.out⟩
        · subst h
          obtain rfl : d1 = false := by rw [← hd1.out, decide_eq_false (by omega)]
          obtain rfl : d2 = false := by rw [← hd2.out, decide_eq_false (by omega)]
          obtain rfl : d3 = true := by rw [← hd3.out, decide_eq_true rfl]
          have e1 : (x == x) = true := by simp
          have e2 : ¬ x < x := by omega
          clear hd1 hd2 hd3
          go_wp2_with fail
          go_ret
          exact ⟨by first | rfl | simp, HB2.out⟩
        · obtain rfl : d1 = false := by rw [← hd1.out, decide_eq_false (by omega)]
          obtain rfl : d2 = true := by rw [← hd2.out, decide_eq_true h]
          obtain rfl : d3 = false := by rw [← hd3.out, decide_eq_false (by omega)]
          have e1 : (x == b) = false := beq_no (by omega)
          have e2 : ¬ x < b := by omega
          clear hd1 hd2 hd3
          go_wp2_with fail
          go_ret
          exact ⟨by first | rfl | simp, HB2.out⟩

set_option maxRecDepth 100000 in
theorem contract (H : Type) (enc : TypeId × Value → H) (W : World) (base : Nat) (args : Array Value) (ds gs : List (DataW H)) (before : List MemPlace)
    (hval : ∀ (j : Nat) t v, Try.f6.params[j]? = some t → args[j]? = some v → Value.okWide Try.prog W .any base t v)
    (hW : DataW.Whole enc Try.prog Try.f6.params.toList Rows.exprReckonsSpec.vars false W args.toList ds gs before) :
    Calls Try.prog 6 args W fun e W' => ∃ v, e = .returned v ∧ Rows.exprReckonsSpec.post enc Try.prog Try.f6 false true false false W args v W' := by
  have hlt : ∀ x ∈ before, x.block < W.heap.size := fun x hx => by simpa using hW.lt x hx
  refine law_step 4 Try.laid_ (by kernel_rfl) rfl Try.underlying4 rfl hW (fun xs hx => ?_) ?_
  · match xs, hx with
    | [d0, d1, d2], _ => rfl
  · obtain ⟨p, q, hA0, hV, rfl, _, _⟩ := hW
    have hA : DataW.TrodAll enc Try.prog W 0 (fun _ => true) true Try.f6.params.toList args.toList ds p := hA0
    rw [Try.params6] at hA hval
    obtain ⟨v0, vs0, d0, ds0, p0, q0, e0, rfl, rfl, h0, r0⟩ := trodAll_cons hA
    obtain ⟨v1, vs1, d1, ds1, p1, q1, e1, rfl, rfl, h1, r1⟩ := trodAll_cons r0
    obtain ⟨v2, vs2, d2, ds2, p2, q2, e2, rfl, rfl, h2, r2⟩ := trodAll_cons r1
    obtain ⟨rfl, rfl, rfl⟩ := trodAll_nil r2
    subst e2
    subst e1
    obtain rfl : args = #[v0, v1, v2] := by cases args; simp_all
    clear e0 hA0
    obtain ⟨a, rfl, rfl, rfl, w0⟩ := open_int Try.underlying21 (hval 0 21 v0 rfl rfl) h0
    obtain ⟨lo0, hi0⟩ := wf_i32r w0
    obtain ⟨b, rfl, rfl, rfl, w1⟩ := open_int Try.underlying21 (hval 1 21 v1 rfl rfl) h1
    obtain ⟨lo1, hi1⟩ := wf_i32r w1
    obtain ⟨t, rfl, rfl, rfl, w2⟩ := open_int Try.underlying5 (hval 2 5 v2 rfl rfl) h2
    obtain ⟨lo2, hi2⟩ := wf_u8 w2
    exact walk a b t W ⟨lo0, hi0⟩ ⟨lo1, hi1⟩ ⟨lo2, hi2⟩

set_option maxRecDepth 100000 in
theorem lifted (os : Os) (started : os.Started) (H : Type) (enc : TypeId × Value → H) :
    ReturnsInHanded {} Try.checked os 6 .any (Rows.exprReckonsSpec.pre6 enc Try.prog Try.f6 Rows.exprReckonsRow.domain false) (Rows.exprReckonsSpec.post enc Try.prog Try.f6 false true false false) := by
  refine returnsInHanded_of_change (C := Try.checked) Try.own_ started (by kernel_rfl) Try.func6
    (ChangeSpec.witness6 (enc := enc) (C := Try.checked) false ⟨#[], #[.int .i32 0, .int .i32 0, .int .u8 0], []⟩ 8 (by kernel_rfl) (by kernel_rfl) (by kernel_rfl) (by kernel_rfl)) ?_
  intro W base args ds gs before hval hW _ _
  exact contract H enc W base args ds gs before hval hW

theorem holds : Rows.ExprReckonsSaid :=
  OpenClaim.holds_of_wide 6 Try.f6 rfl rfl rfl rfl rfl rfl rfl ⟨rfl, rfl, rfl, rfl, rfl⟩ rfl rfl rfl rfl rfl (by kernel_rfl) Try.func6 (by kernel_rfl)
    (of_decide_eq_true (by kernel_rfl)) (by unfold Func.isWrapper; first | (rw [if_pos (by decide +kernel)]; kernel_rfl) | (rw [if_neg (by decide +kernel)]; exact ⟨rfl, rfl⟩))
    (fun os started H enc _ => lifted os started H enc)
end Go.Proofs.Ytkpkkkmokgmhfaa.exprReckons
