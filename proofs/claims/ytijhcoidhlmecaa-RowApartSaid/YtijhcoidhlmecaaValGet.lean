/- Layer 2: the value with whose bytes a slice begins: the code and the document's answer. -/
import Derived.Test.YtijhcoidhlmecaaSlice1
import Derived.Test.YtijhcoidhlmecaaValPlain
import Derived.Test.YtijhcoidhlmecaaValBytes
import Derived.Test.YtijhcoidhlmecaaStruct
namespace Go.Proofs.Ytijhcoidhlmecaa
set_option maxRecDepth 100000
open Go.RowKit

def vN : Option (Int × Nat) → Int | some (n, _) => n | none => 0
def vM : Option (Int × Nat) → Int | some (_, k) => k | none => 0
def vE : Option (Int × Nat) → Int | some _ => 0 | none => 3
def uT : Option (List Int × Nat) → ByteArray | some (t, _) => textOf t | none => ⟨#[]⟩
def uM : Option (List Int × Nat) → Int | some (_, k) => k | none => 0
def uE : Option (List Int × Nat) → Int | some _ => 0 | none => 3

def hK : List Int → Int | [] => 0 | x :: _ => x
def hN : List Int → Int | [] => 0 | x :: r => if x = 1 then vN (getZ r) else 0
def hS : List Int → ByteArray | [] => ⟨#[]⟩ | x :: r => if x = 2 then uT (textZ r) else ⟨#[]⟩
def hM : List Int → Int | [] => 0 | x :: r => if x = 1 then vM (getZ r) else if x = 2 then uM (textZ r) else 0
def hE : List Int → Int | [] => 3 | x :: r => if x = 1 then vE (getZ r) else if x = 2 then uE (textZ r) else 0
/-- is a value got of l -/
def getOk (l : List Int) : Bool := decide (hE l = 0) && rightZ (hK l) (hN l) (hS l).size
def gvK (l : List Int) : Int := if getOk l then hK l else 0
def gvN (l : List Int) : Int := if getOk l then hN l else 0
def gvS (l : List Int) : ByteArray := if getOk l then hS l else ⟨#[]⟩
def gvM (l : List Int) : Int := if getOk l then 1 + hM l else 0
def gvE (l : List Int) : Int := if getOk l then 0 else 3

theorem gv_none {l : List Int} (h : getOk l = false) : gvK l = 0 ∧ gvN l = 0 ∧ gvS l = ⟨#[]⟩ ∧ gvM l = 0 ∧ gvE l = 3 := by simp [gvK, gvN, gvS, gvM, gvE, h]
theorem gv_some {l : List Int} (h : getOk l = true) : gvK l = hK l ∧ gvN l = hN l ∧ gvS l = hS l ∧ gvM l = 1 + hM l ∧ gvE l = 0 := by simp [gvK, gvN, gvS, gvM, gvE, h]

theorem getV_is (r : Option (Int × Nat)) : getV r = .tuple #[.int .i64 (vN r), .int .i64 (vM r), .int .i64 (vE r)] := by
  rcases r with _ | ⟨n, k⟩ <;> rfl
theorem textV_is (r : Option (List Int × Nat)) : textV r = .tuple #[.string (uT r), .int .i64 (uM r), .int .i64 (uE r)] := by
  rcases r with _ | ⟨n, k⟩ <;> rfl
theorem vE_or (r : Option (Int × Nat)) : vE r = 0 ∨ vE r = 3 := by rcases r with _ | ⟨n, k⟩ <;> simp [vE]
theorem uE_or (r : Option (List Int × Nat)) : uE r = 0 ∨ uE r = 3 := by rcases r with _ | ⟨n, k⟩ <;> simp [uE]
theorem vM_rng {l : List Int} (hb : ∀ x ∈ l, 0 ≤ x ∧ x ≤ 255) : 0 ≤ vM (getZ l) ∧ vM (getZ l) ≤ l.length := by
  cases h : getZ l with
  | none => simp [vM]
  | some p =>
    obtain ⟨n, k⟩ := p
    have := (getZ_some hb h).2.2.2.2
    simp only [vM]; omega
theorem uM_rng {l : List Int} (_hb : ∀ x ∈ l, 0 ≤ x ∧ x ≤ 255) : 0 ≤ uM (textZ l) ∧ uM (textZ l) ≤ l.length ∧ (uT (textZ l)).size ≤ l.length := by
  have key : ∀ p, textZ l = some p → p.2 ≤ l.length ∧ p.1.length ≤ l.length := by
    intro p hp
    unfold textZ at hp
    split at hp
    · split at hp
      · injection hp with hp
        subst hp
        rename_i h
        simp only [List.length_take, List.length_drop]
        omega
      · cases hp
    · cases hp
  cases h : textZ l with
  | none => simp [uM, uT]; exact Nat.zero_le _
  | some p =>
    have hk := key p h
    obtain ⟨t, k⟩ := p
    have ht : (textOf t).size = t.length := by simp [textOf, ByteArray.size]
    simp only [uM, uT, ht] at hk ⊢
    omega

theorem row_setCell {w : World} {g h : Nat} {o : Obj} {j : Nat} {x : Value} (e : w.heap[g]? = some o) (hne : g ≠ h) : (w.setCell ⟨h, j, none⟩ x).heap[g]? = some o := by
  rw [Below.heap_setCell _ _ _ _ hne, e]

set_option maxHeartbeats 6400000 in
theorem valGet_any (A : Option Addr) (n c : Nat) (l : List Int) (w : World) (hrd : Rd w A n c (vals .u8 l)) (hb : ∀ x ∈ l, 0 ≤ x ∧ x ≤ 255) (hn : n ≤ 4294967296) :
    Calls Try.prog 38 #[.slice A n c] w fun e w' => e = .returned (.tuple #[.agg #[.int .i64 (gvK l), .int .i64 (gvN l), .string (gvS l)], .int .i64 (gvM l), .int .i64 (gvE l)]) ∧ Below w.heap.size w w' := by
  have hll : l.length = n := by simpa using hrd.len
  have hcap := hrd.cap
  have B0 := below_new (Below.refl w.heap.size w) (.cells #[.int .i64 0, .int .i64 0, .string ⟨#[]⟩] 44)
  cases l with
  | nil =>
    simp at hll
    subst hll
    have hG := Lib.hid (gv_none (l := []) (by decide))
    clear hrd hb
    go_enter Try.func38, Try.ntmps38
    go_wp2
    refine bodyPost_ret (v := .tuple #[.agg #[.int .i64 0, .int .i64 0, .string ⟨#[]⟩], .int .i64 0, .int .i64 3]) (results_row_tmp2 rfl _ _ w.heap.size 44 _ (0, 0) _ rfl (heap_alloc_new _ _) Try.underlying44 rfl (by kernel_rfl) rfl rfl) rfl ⟨?_, B0⟩
    obtain ⟨a, b, c, d, e⟩ := hG.out
    rw [a, b, c, d, e]
  | cons x r =>
    have hn1 : 1 ≤ n := by rw [← hll]; simp
    obtain ⟨b, o, u, rfl, _, hu, hcx⟩ := (hrd.below B0).at_ (k := 0) (by omega)
    obtain ⟨x', hx, rfl⟩ := vals_at hu
    simp only [List.getElem?_cons_zero, Option.some.injEq] at hx
    subst hx
    simp only [Nat.add_zero] at hcx
    obtain ⟨A1, HSUB, hsl⟩ : ∃ A1, Hid (Rd w A1 (n - 1) (c - 1) (vals .u8 ((x :: r).drop 1))) ∧ ∀ W, (Instr.slice 35 (.slice (some ⟨b, o, none⟩) n c) (some (.int .i64 1)) none none).run Try.prog W = .ok (.slice A1 (n - 1) (c - 1)) W :=
      ⟨_, Lib.hid (hrd.cut8 (k := 1) hn1), fun W => run_from1 hn1 W⟩
    have hbr : ∀ y ∈ r, 0 ≤ y ∧ y ≤ 255 := fun y hy => hb y (List.mem_cons_of_mem _ hy)
    have hx0 := hb x (by simp)
    have hlr : r.length + 1 = n := by simpa using hll
    have HLR := Lib.hid hlr
    have HBR := Lib.hid hbr
    clear hrd hb hll hu hbr hlr
    have hr0 := heap_alloc_new w (.cells #[.int .i64 0, .int .i64 0, .string ⟨#[]⟩] 44)
    have B1 := below_new B0 (.cells #[.int .i64 x, .int .i64 0, .string ⟨#[]⟩] 44)
    have hv1 := heap_alloc_new (w.alloc (.cells #[.int .i64 0, .int .i64 0, .string ⟨#[]⟩] 44)) (.cells #[.int .i64 x, .int .i64 0, .string ⟨#[]⟩] 44)
    rw [World.size_alloc] at hv1
    have hr1 := row_below hr0 (below_new (Below.refl _ _) (.cells #[.int .i64 x, .int .i64 0, .string ⟨#[]⟩] 44))
    have HV1 := Lib.hid hv1; have HR1 := Lib.hid hr1
    clear hr0 hv1 hr1
    obtain ⟨b0, b1⟩ := hx0
    rcases Decidable.em (x = 1) with rfl | hx1
    · obtain ⟨X, M, E, hH, hEE, hM0, hM1, hXs, CG⟩ : ∃ (X : Int) (M E : Int), Hid (hK (1 :: r) = 1 ∧ hN (1 :: r) = X ∧ hS (1 :: r) = ⟨#[]⟩ ∧ hM (1 :: r) = M ∧ hE (1 :: r) = E) ∧ (E = 0 ∨ E = 3) ∧ 0 ≤ M ∧ M ≤ 4294967296 ∧ True ∧ Hid (∀ W, Below w.heap.size w W →
          Calls Try.prog 36 #[.slice A1 (n - 1) (c - 1)] W fun e W' => e = .returned (.tuple #[.int .i64 X, .int .i64 M, .int .i64 E]) ∧ Below W.heap.size W W') := by
        refine ⟨vN (getZ r), vM (getZ r), vE (getZ r), Lib.hid (by simp [hK, hN, hS, hM, hE]), vE_or _, (vM_rng HBR.out).1, by have := (vM_rng HBR.out).2; have := HLR.out; omega, trivial, Lib.hid fun W hW => ?_⟩
        exact (get_any _ _ _ r W (HSUB.out.below hW) HBR.out).mono fun e w1 h => ⟨h.1.trans (congrArg Ending.returned (getV_is _)), h.2 ▸ Below.refl _ _⟩
      obtain ⟨q, hq, CR⟩ : ∃ q : Bool, Hid (rightZ 1 X (ByteArray.size ⟨#[]⟩) = q) ∧ Hid (∀ W, Calls Try.prog 43 #[.agg #[.int .i64 1, .int .i64 X, .string ⟨#[]⟩]] W fun e W' => e = .returned (.bool q) ∧ Below W.heap.size W W') :=
        ⟨_, Lib.hid rfl, Lib.hid fun W => right_any _ _ _ W (by decide)⟩
      clear HSUB
      go_enter Try.func38, Try.ntmps38
      go_wp2_with fail
      refine (CG.out _ B1).mono ?_
      rintro e w2 ⟨rfl, b2⟩
      have B2 := below_then B1 b2
      have hv2 := row_below HV1.out b2
      have HR2 := Lib.hid (row_below HR1.out b2)
      have v0 := cell_row hv2 0; have v1 := cell_row hv2 1; have v2 := cell_row hv2 2
      have f0 := frozen_row hv2 0; have f1 := frozen_row hv2 1; have f2 := frozen_row hv2 2
      have HV3 := Lib.hid (set_row hv2 1 (.int .i64 X))
      have HR3 := Lib.hid (row_setCell (h := w.heap.size + 1) (j := 1) (x := (.int .i64 X)) HR2.out (by omega))
      have B3 := B2.setCell (p := ⟨w.heap.size + 1, 1, none⟩) (Nat.le_succ _) (.int .i64 X)
      clear hv2
      obtain rfl | rfl := hEE
      · go_wp2_with fail
        refine (CR.out _).mono ?_
        rintro e w4 ⟨rfl, b4⟩
        have B4 := below_then B3 b4
        have HV4 := Lib.hid (row_below HV3.out b4)
        have HR4 := Lib.hid (row_below HR3.out b4)
        clear v0 v1 v2 f0 f1 f2
        cases q with
        | false =>
          have hG := Lib.hid (gv_none (l := 1 :: r) (by show (decide (hE (1 :: r) = 0) && rightZ (hK (1 :: r)) (hN (1 :: r)) (hS (1 :: r)).size) = _; rw [hH.out.1, hH.out.2.1, hH.out.2.2.1, hH.out.2.2.2.2, hq.out]; rfl))
          have c0 := cell_row HR4.out 0; have c1 := cell_row HR4.out 1; have c2 := cell_row HR4.out 2
          have f0 := frozen_row HR4.out 0; have f1 := frozen_row HR4.out 1; have f2 := frozen_row HR4.out 2
          go_wp2
          refine bodyPost_ret (v := .tuple #[.agg #[.int .i64 0, .int .i64 0, .string ⟨#[]⟩], .int .i64 0, .int .i64 3]) (results_row_tmp2 rfl _ _ w.heap.size 44 _ (0, 0) _ rfl (set3 HR4.out) Try.underlying44 rfl (by kernel_rfl) rfl rfl) rfl ⟨?_, below_set3 B4 (Nat.le_refl _)⟩
          obtain ⟨a, b, c, d, e⟩ := hG.out
          rw [a, b, c, d, e]
        | true =>
          have hG : Hid (gvK (1 :: r) = 1 ∧ gvN (1 :: r) = X ∧ gvS (1 :: r) = ⟨#[]⟩ ∧ gvM (1 :: r) = 1 + M ∧ gvE (1 :: r) = 0) := by
            have h := gv_some (l := 1 :: r) (by show (decide (hE (1 :: r) = 0) && rightZ (hK (1 :: r)) (hN (1 :: r)) (hS (1 :: r)).size) = _; rw [hH.out.1, hH.out.2.1, hH.out.2.2.1, hH.out.2.2.2.2, hq.out]; rfl)
            rw [hH.out.1, hH.out.2.1, hH.out.2.2.1, hH.out.2.2.2.1] at h
            exact h
          have v0 := cell_row HV4.out 0; have v1 := cell_row HV4.out 1; have v2 := cell_row HV4.out 2
          have c0 := cell_row HR4.out 0; have c1 := cell_row HR4.out 1; have c2 := cell_row HR4.out 2
          have f0 := frozen_row HR4.out 0; have f1 := frozen_row HR4.out 1; have f2 := frozen_row HR4.out 2
          go_wp2
          refine bodyPost_ret (v := .tuple #[.agg #[.int .i64 1, .int .i64 X, .string ⟨#[]⟩], .int .i64 (1 + M), .int .i64 0]) (results_row_tmp2 rfl _ _ w.heap.size 44 _ (0, 0) _ rfl (set3 HR4.out) Try.underlying44 rfl (by kernel_rfl) (by go_num) rfl) rfl ⟨?_, below_set3 B4 (Nat.le_refl _)⟩
          obtain ⟨a, b, c, d, e⟩ := hG.out
          rw [a, b, c, d, e]
      · have hG := Lib.hid (gv_none (l := 1 :: r) (by show (decide (hE (1 :: r) = 0) && rightZ (hK (1 :: r)) (hN (1 :: r)) (hS (1 :: r)).size) = _; rw [hH.out.1, hH.out.2.1, hH.out.2.2.1, hH.out.2.2.2.2]; rfl))
        have c0 := cell_row HR3.out 0; have c1 := cell_row HR3.out 1; have c2 := cell_row HR3.out 2
        have g0 := frozen_row HR3.out 0; have g1 := frozen_row HR3.out 1; have g2 := frozen_row HR3.out 2
        have d0 := cell_row HR2.out 0; have d1 := cell_row HR2.out 1; have d2 := cell_row HR2.out 2
        have e0 := frozen_row HR2.out 0; have e1 := frozen_row HR2.out 1; have e2 := frozen_row HR2.out 2
        go_wp2
        refine bodyPost_ret (v := .tuple #[.agg #[.int .i64 0, .int .i64 0, .string ⟨#[]⟩], .int .i64 0, .int .i64 3]) (results_row_tmp2 rfl _ _ w.heap.size 44 _ (0, 0) _ rfl (set3 HR3.out) Try.underlying44 rfl (by kernel_rfl) rfl rfl) rfl ⟨?_, below_set3 B3 (Nat.le_refl _)⟩
        obtain ⟨a, b, c, d, e⟩ := hG.out
        rw [a, b, c, d, e]
    rcases Decidable.em (x = 2) with rfl | hx2
    · obtain ⟨X, M, E, hH, hEE, hM0, hM1, hXs, CG⟩ : ∃ (X : ByteArray) (M E : Int), Hid (hK (2 :: r) = 2 ∧ hN (2 :: r) = 0 ∧ hS (2 :: r) = X ∧ hM (2 :: r) = M ∧ hE (2 :: r) = E) ∧ (E = 0 ∨ E = 3) ∧ 0 ≤ M ∧ M ≤ 4294967296 ∧ X.size ≤ 4294967296 ∧ Hid (∀ W, Below w.heap.size w W →
          Calls Try.prog 49 #[.slice A1 (n - 1) (c - 1)] W fun e W' => e = .returned (.tuple #[.string X, .int .i64 M, .int .i64 E]) ∧ Below W.heap.size W W') := by
        refine ⟨uT (textZ r), uM (textZ r), uE (textZ r), Lib.hid (by simp [hK, hN, hS, hM, hE]), uE_or _, (uM_rng HBR.out).1, by have := (uM_rng HBR.out).2.1; have := HLR.out; omega, by have := (uM_rng HBR.out).2.2; have := HLR.out; omega, Lib.hid fun W hW => ?_⟩
        exact (getText_any _ _ _ r W (HSUB.out.below hW) HBR.out).mono fun e w1 h => ⟨h.1.trans (congrArg Ending.returned (textV_is _)), h.2⟩
      obtain ⟨q, hq, CR⟩ : ∃ q : Bool, Hid (rightZ 2 0 (ByteArray.size X) = q) ∧ Hid (∀ W, Calls Try.prog 43 #[.agg #[.int .i64 2, .int .i64 0, .string X]] W fun e W' => e = .returned (.bool q) ∧ Below W.heap.size W W') :=
        ⟨_, Lib.hid rfl, Lib.hid fun W => right_any _ _ _ W (by omega)⟩
      clear HSUB
      go_enter Try.func38, Try.ntmps38
      go_wp2_with fail
      refine (CG.out _ B1).mono ?_
      rintro e w2 ⟨rfl, b2⟩
      have B2 := below_then B1 b2
      have hv2 := row_below HV1.out b2
      have HR2 := Lib.hid (row_below HR1.out b2)
      have v0 := cell_row hv2 0; have v1 := cell_row hv2 1; have v2 := cell_row hv2 2
      have f0 := frozen_row hv2 0; have f1 := frozen_row hv2 1; have f2 := frozen_row hv2 2
      have HV3 := Lib.hid (set_row hv2 2 (.string X))
      have HR3 := Lib.hid (row_setCell (h := w.heap.size + 1) (j := 2) (x := (.string X)) HR2.out (by omega))
      have B3 := B2.setCell (p := ⟨w.heap.size + 1, 2, none⟩) (Nat.le_succ _) (.string X)
      clear hv2
      obtain rfl | rfl := hEE
      · go_wp2_with fail
        refine (CR.out _).mono ?_
        rintro e w4 ⟨rfl, b4⟩
        have B4 := below_then B3 b4
        have HV4 := Lib.hid (row_below HV3.out b4)
        have HR4 := Lib.hid (row_below HR3.out b4)
        clear v0 v1 v2 f0 f1 f2
        cases q with
        | false =>
          have hG := Lib.hid (gv_none (l := 2 :: r) (by show (decide (hE (2 :: r) = 0) && rightZ (hK (2 :: r)) (hN (2 :: r)) (hS (2 :: r)).size) = _; rw [hH.out.1, hH.out.2.1, hH.out.2.2.1, hH.out.2.2.2.2, hq.out]; rfl))
          have c0 := cell_row HR4.out 0; have c1 := cell_row HR4.out 1; have c2 := cell_row HR4.out 2
          have f0 := frozen_row HR4.out 0; have f1 := frozen_row HR4.out 1; have f2 := frozen_row HR4.out 2
          go_wp2
          refine bodyPost_ret (v := .tuple #[.agg #[.int .i64 0, .int .i64 0, .string ⟨#[]⟩], .int .i64 0, .int .i64 3]) (results_row_tmp2 rfl _ _ w.heap.size 44 _ (0, 0) _ rfl (set3 HR4.out) Try.underlying44 rfl (by kernel_rfl) rfl rfl) rfl ⟨?_, below_set3 B4 (Nat.le_refl _)⟩
          obtain ⟨a, b, c, d, e⟩ := hG.out
          rw [a, b, c, d, e]
        | true =>
          have hG : Hid (gvK (2 :: r) = 2 ∧ gvN (2 :: r) = 0 ∧ gvS (2 :: r) = X ∧ gvM (2 :: r) = 1 + M ∧ gvE (2 :: r) = 0) := by
            have h := gv_some (l := 2 :: r) (by show (decide (hE (2 :: r) = 0) && rightZ (hK (2 :: r)) (hN (2 :: r)) (hS (2 :: r)).size) = _; rw [hH.out.1, hH.out.2.1, hH.out.2.2.1, hH.out.2.2.2.2, hq.out]; rfl)
            rw [hH.out.1, hH.out.2.1, hH.out.2.2.1, hH.out.2.2.2.1] at h
            exact h
          have v0 := cell_row HV4.out 0; have v1 := cell_row HV4.out 1; have v2 := cell_row HV4.out 2
          have c0 := cell_row HR4.out 0; have c1 := cell_row HR4.out 1; have c2 := cell_row HR4.out 2
          have f0 := frozen_row HR4.out 0; have f1 := frozen_row HR4.out 1; have f2 := frozen_row HR4.out 2
          go_wp2
          refine bodyPost_ret (v := .tuple #[.agg #[.int .i64 2, .int .i64 0, .string X], .int .i64 (1 + M), .int .i64 0]) (results_row_tmp2 rfl _ _ w.heap.size 44 _ (0, 0) _ rfl (set3 HR4.out) Try.underlying44 rfl (by kernel_rfl) (by go_num) rfl) rfl ⟨?_, below_set3 B4 (Nat.le_refl _)⟩
          obtain ⟨a, b, c, d, e⟩ := hG.out
          rw [a, b, c, d, e]
      · have hG := Lib.hid (gv_none (l := 2 :: r) (by show (decide (hE (2 :: r) = 0) && rightZ (hK (2 :: r)) (hN (2 :: r)) (hS (2 :: r)).size) = _; rw [hH.out.1, hH.out.2.1, hH.out.2.2.1, hH.out.2.2.2.2]; rfl))
        have c0 := cell_row HR3.out 0; have c1 := cell_row HR3.out 1; have c2 := cell_row HR3.out 2
        have g0 := frozen_row HR3.out 0; have g1 := frozen_row HR3.out 1; have g2 := frozen_row HR3.out 2
        have d0 := cell_row HR2.out 0; have d1 := cell_row HR2.out 1; have d2 := cell_row HR2.out 2
        have e0 := frozen_row HR2.out 0; have e1 := frozen_row HR2.out 1; have e2 := frozen_row HR2.out 2
        go_wp2
        refine bodyPost_ret (v := .tuple #[.agg #[.int .i64 0, .int .i64 0, .string ⟨#[]⟩], .int .i64 0, .int .i64 3]) (results_row_tmp2 rfl _ _ w.heap.size 44 _ (0, 0) _ rfl (set3 HR3.out) Try.underlying44 rfl (by kernel_rfl) rfl rfl) rfl ⟨?_, below_set3 B3 (Nat.le_refl _)⟩
        obtain ⟨a, b, c, d, e⟩ := hG.out
        rw [a, b, c, d, e]
    · have hH : Hid (hK (x :: r) = x ∧ hN (x :: r) = 0 ∧ hS (x :: r) = ⟨#[]⟩ ∧ hM (x :: r) = 0 ∧ hE (x :: r) = 0) := by
        show _ ∧ _
        simp [hK, hN, hS, hM, hE, hx1, hx2]
      obtain ⟨q, hq, CR⟩ : ∃ q : Bool, Hid (rightZ x 0 (ByteArray.size ⟨#[]⟩) = q) ∧ Hid (∀ W, Calls Try.prog 43 #[.agg #[.int .i64 x, .int .i64 0, .string ⟨#[]⟩]] W fun e W' => e = .returned (.bool q) ∧ Below W.heap.size W W') :=
        ⟨_, Lib.hid rfl, Lib.hid fun W => right_any _ _ _ W (by decide)⟩
      clear HSUB
      go_enter Try.func38, Try.ntmps38
      go_wp2_with fail
      refine (CR.out _).mono ?_
      rintro e w4 ⟨rfl, b4⟩
      have B4 := below_then B1 b4
      have HV4 := Lib.hid (row_below HV1.out b4)
      have HR4 := Lib.hid (row_below HR1.out b4)
      cases q with
      | false =>
        have hG := Lib.hid (gv_none (l := x :: r) (by show (decide (hE (x :: r) = 0) && rightZ (hK (x :: r)) (hN (x :: r)) (hS (x :: r)).size) = _; rw [hH.out.1, hH.out.2.1, hH.out.2.2.1, hH.out.2.2.2.2, hq.out]; rfl))
        have c0 := cell_row HR4.out 0; have c1 := cell_row HR4.out 1; have c2 := cell_row HR4.out 2
        have f0 := frozen_row HR4.out 0; have f1 := frozen_row HR4.out 1; have f2 := frozen_row HR4.out 2
        go_wp2
        refine bodyPost_ret (v := .tuple #[.agg #[.int .i64 0, .int .i64 0, .string ⟨#[]⟩], .int .i64 0, .int .i64 3]) (results_row_tmp2 rfl _ _ w.heap.size 44 _ (0, 0) _ rfl (set3 HR4.out) Try.underlying44 rfl (by kernel_rfl) rfl rfl) rfl ⟨?_, below_set3 B4 (Nat.le_refl _)⟩
        obtain ⟨a, b, c, d, e⟩ := hG.out
        rw [a, b, c, d, e]
      | true =>
        have hG : Hid (gvK (x :: r) = x ∧ gvN (x :: r) = 0 ∧ gvS (x :: r) = ⟨#[]⟩ ∧ gvM (x :: r) = 1 ∧ gvE (x :: r) = 0) := by
          have h := gv_some (l := x :: r) (by show (decide (hE (x :: r) = 0) && rightZ (hK (x :: r)) (hN (x :: r)) (hS (x :: r)).size) = _; rw [hH.out.1, hH.out.2.1, hH.out.2.2.1, hH.out.2.2.2.2, hq.out]; rfl)
          rw [hH.out.1, hH.out.2.1, hH.out.2.2.1, hH.out.2.2.2.1] at h
          exact h
        have v0 := cell_row HV4.out 0; have v1 := cell_row HV4.out 1; have v2 := cell_row HV4.out 2
        have c0 := cell_row HR4.out 0; have c1 := cell_row HR4.out 1; have c2 := cell_row HR4.out 2
        have f0 := frozen_row HR4.out 0; have f1 := frozen_row HR4.out 1; have f2 := frozen_row HR4.out 2
        go_wp2
        refine bodyPost_ret (v := .tuple #[.agg #[.int .i64 x, .int .i64 0, .string ⟨#[]⟩], .int .i64 1, .int .i64 0]) (results_row_tmp2 rfl _ _ w.heap.size 44 _ (0, 0) _ rfl (set3 HR4.out) Try.underlying44 rfl (by kernel_rfl) rfl rfl) rfl ⟨?_, below_set3 B4 (Nat.le_refl _)⟩
        obtain ⟨a, b, c, d, e⟩ := hG.out
        rw [a, b, c, d, e]

set_option maxHeartbeats 6400000 in
theorem refValGet_any (A : Option Addr) (n c : Nat) (l : List Int) (w : World) (hrd : Rd w A n c (vals .u8 l)) (hb : ∀ x ∈ l, 0 ≤ x ∧ x ≤ 255) (hn : n ≤ 4294967296) :
    Calls Try.prog 42 #[.slice A n c] w fun e w' => e = .returned (.tuple #[.agg #[.int .i64 (gvK l), .int .i64 (gvN l), .string (gvS l)], .int .i64 (gvM l), .int .i64 (gvE l)]) ∧ Below w.heap.size w w' := by
  have hll : l.length = n := by simpa using hrd.len
  have hcap := hrd.cap
  have B0 := below_new (Below.refl w.heap.size w) (.cells #[.int .i64 0, .int .i64 0, .string ⟨#[]⟩] 44)
  cases l with
  | nil =>
    simp at hll
    subst hll
    have hG := Lib.hid (gv_none (l := []) (by decide))
    clear hrd hb
    go_enter Try.func42, Try.ntmps42
    go_wp2
    refine bodyPost_ret (v := .tuple #[.agg #[.int .i64 0, .int .i64 0, .string ⟨#[]⟩], .int .i64 0, .int .i64 3]) (results_row_tmp2 rfl _ _ w.heap.size 44 _ (0, 0) _ rfl (heap_alloc_new _ _) Try.underlying44 rfl (by kernel_rfl) rfl rfl) rfl ⟨?_, B0⟩
    obtain ⟨a, b, c, d, e⟩ := hG.out
    rw [a, b, c, d, e]
  | cons x r =>
    have hn1 : 1 ≤ n := by rw [← hll]; simp
    obtain ⟨b, o, u, rfl, _, hu, hcx⟩ := (hrd.below B0).at_ (k := 0) (by omega)
    obtain ⟨x', hx, rfl⟩ := vals_at hu
    simp only [List.getElem?_cons_zero, Option.some.injEq] at hx
    subst hx
    simp only [Nat.add_zero] at hcx
    obtain ⟨A1, HSUB, hsl⟩ : ∃ A1, Hid (Rd w A1 (n - 1) (c - 1) (vals .u8 ((x :: r).drop 1))) ∧ ∀ W, (Instr.slice 35 (.slice (some ⟨b, o, none⟩) n c) (some (.int .i64 1)) none none).run Try.prog W = .ok (.slice A1 (n - 1) (c - 1)) W :=
      ⟨_, Lib.hid (hrd.cut8 (k := 1) hn1), fun W => run_from1 hn1 W⟩
    have hbr : ∀ y ∈ r, 0 ≤ y ∧ y ≤ 255 := fun y hy => hb y (List.mem_cons_of_mem _ hy)
    have hx0 := hb x (by simp)
    have hlr : r.length + 1 = n := by simpa using hll
    have HLR := Lib.hid hlr
    have HBR := Lib.hid hbr
    clear hrd hb hll hu hbr hlr
    have hr0 := heap_alloc_new w (.cells #[.int .i64 0, .int .i64 0, .string ⟨#[]⟩] 44)
    have B1 := below_new B0 (.cells #[.int .i64 x, .int .i64 0, .string ⟨#[]⟩] 44)
    have hv1 := heap_alloc_new (w.alloc (.cells #[.int .i64 0, .int .i64 0, .string ⟨#[]⟩] 44)) (.cells #[.int .i64 x, .int .i64 0, .string ⟨#[]⟩] 44)
    rw [World.size_alloc] at hv1
    have hr1 := row_below hr0 (below_new (Below.refl _ _) (.cells #[.int .i64 x, .int .i64 0, .string ⟨#[]⟩] 44))
    have HV1 := Lib.hid hv1; have HR1 := Lib.hid hr1
    clear hr0 hv1 hr1
    obtain ⟨b0, b1⟩ := hx0
    rcases Decidable.em (x = 1) with rfl | hx1
    · obtain ⟨X, M, E, hH, hEE, hM0, hM1, hXs, CG⟩ : ∃ (X : Int) (M E : Int), Hid (hK (1 :: r) = 1 ∧ hN (1 :: r) = X ∧ hS (1 :: r) = ⟨#[]⟩ ∧ hM (1 :: r) = M ∧ hE (1 :: r) = E) ∧ (E = 0 ∨ E = 3) ∧ 0 ≤ M ∧ M ≤ 4294967296 ∧ True ∧ Hid (∀ W, Below w.heap.size w W →
          Calls Try.prog 41 #[.slice A1 (n - 1) (c - 1)] W fun e W' => e = .returned (.tuple #[.int .i64 X, .int .i64 M, .int .i64 E]) ∧ Below W.heap.size W W') := by
        refine ⟨vN (getZ r), vM (getZ r), vE (getZ r), Lib.hid (by simp [hK, hN, hS, hM, hE]), vE_or _, (vM_rng HBR.out).1, by have := (vM_rng HBR.out).2; have := HLR.out; omega, trivial, Lib.hid fun W hW => ?_⟩
        exact (refGet_any _ _ _ r W (HSUB.out.below hW) HBR.out).mono fun e w1 h => ⟨h.1.trans (congrArg Ending.returned (getV_is _)), h.2⟩
      obtain ⟨q, hq, CR⟩ : ∃ q : Bool, Hid (rightZ 1 X (ByteArray.size ⟨#[]⟩) = q) ∧ Hid (∀ W, Calls Try.prog 29 #[.agg #[.int .i64 1, .int .i64 X, .string ⟨#[]⟩]] W fun e W' => e = .returned (.bool q) ∧ Below W.heap.size W W') :=
        ⟨_, Lib.hid rfl, Lib.hid fun W => refRight_any _ _ _ W (by decide)⟩
      clear HSUB
      go_enter Try.func42, Try.ntmps42
      go_wp2_with fail
      refine (CG.out _ B1).mono ?_
      rintro e w2 ⟨rfl, b2⟩
      have B2 := below_then B1 b2
      have hv2 := row_below HV1.out b2
      have HR2 := Lib.hid (row_below HR1.out b2)
      have v0 := cell_row hv2 0; have v1 := cell_row hv2 1; have v2 := cell_row hv2 2
      have f0 := frozen_row hv2 0; have f1 := frozen_row hv2 1; have f2 := frozen_row hv2 2
      have HV3 := Lib.hid (set_row hv2 1 (.int .i64 X))
      have HR3 := Lib.hid (row_setCell (h := w.heap.size + 1) (j := 1) (x := (.int .i64 X)) HR2.out (by omega))
      have B3 := B2.setCell (p := ⟨w.heap.size + 1, 1, none⟩) (Nat.le_succ _) (.int .i64 X)
      clear hv2
      go_wp2_with fail
      refine (CR.out _).mono ?_
      rintro e w4 ⟨rfl, b4⟩
      have B4 := below_then B3 b4
      have HV4 := Lib.hid (row_below HV3.out b4)
      have HR4 := Lib.hid (row_below HR3.out b4)
      clear v0 v1 v2 f0 f1 f2
      obtain rfl | rfl := hEE
      · cases q with
        | false =>
          have hG := Lib.hid (gv_none (l := 1 :: r) (by show (decide (hE (1 :: r) = 0) && rightZ (hK (1 :: r)) (hN (1 :: r)) (hS (1 :: r)).size) = _; rw [hH.out.1, hH.out.2.1, hH.out.2.2.1, hH.out.2.2.2.2, hq.out]; rfl))
          have c0 := cell_row HR4.out 0; have c1 := cell_row HR4.out 1; have c2 := cell_row HR4.out 2
          have f0 := frozen_row HR4.out 0; have f1 := frozen_row HR4.out 1; have f2 := frozen_row HR4.out 2
          go_wp2
          refine bodyPost_ret (v := .tuple #[.agg #[.int .i64 0, .int .i64 0, .string ⟨#[]⟩], .int .i64 0, .int .i64 3]) (results_row_tmp2 rfl _ _ w.heap.size 44 _ (0, 0) _ rfl (set3 HR4.out) Try.underlying44 rfl (by kernel_rfl) rfl rfl) rfl ⟨?_, below_set3 B4 (Nat.le_refl _)⟩
          obtain ⟨a, b, c, d, e⟩ := hG.out
          rw [a, b, c, d, e]
        | true =>
          have hG : Hid (gvK (1 :: r) = 1 ∧ gvN (1 :: r) = X ∧ gvS (1 :: r) = ⟨#[]⟩ ∧ gvM (1 :: r) = 1 + M ∧ gvE (1 :: r) = 0) := by
            have h := gv_some (l := 1 :: r) (by show (decide (hE (1 :: r) = 0) && rightZ (hK (1 :: r)) (hN (1 :: r)) (hS (1 :: r)).size) = _; rw [hH.out.1, hH.out.2.1, hH.out.2.2.1, hH.out.2.2.2.2, hq.out]; rfl)
            rw [hH.out.1, hH.out.2.1, hH.out.2.2.1, hH.out.2.2.2.1] at h
            exact h
          have v0 := cell_row HV4.out 0; have v1 := cell_row HV4.out 1; have v2 := cell_row HV4.out 2
          have c0 := cell_row HR4.out 0; have c1 := cell_row HR4.out 1; have c2 := cell_row HR4.out 2
          have f0 := frozen_row HR4.out 0; have f1 := frozen_row HR4.out 1; have f2 := frozen_row HR4.out 2
          go_wp2
          refine bodyPost_ret (v := .tuple #[.agg #[.int .i64 1, .int .i64 X, .string ⟨#[]⟩], .int .i64 (M + 1), .int .i64 0]) (results_row_tmp2 rfl _ _ w.heap.size 44 _ (0, 0) _ rfl (set3 HR4.out) Try.underlying44 rfl (by kernel_rfl) (by go_num) rfl) rfl ⟨?_, below_set3 B4 (Nat.le_refl _)⟩
          obtain ⟨a, b, c, d, e⟩ := hG.out
          rw [a, b, c, d, e]
          rw [Int.add_comm]
      · have hG := Lib.hid (gv_none (l := 1 :: r) (by show (decide (hE (1 :: r) = 0) && rightZ (hK (1 :: r)) (hN (1 :: r)) (hS (1 :: r)).size) = _; rw [hH.out.1, hH.out.2.1, hH.out.2.2.1, hH.out.2.2.2.2]; rfl))
        have c0 := cell_row HR4.out 0; have c1 := cell_row HR4.out 1; have c2 := cell_row HR4.out 2
        have f0 := frozen_row HR4.out 0; have f1 := frozen_row HR4.out 1; have f2 := frozen_row HR4.out 2
        go_wp2
        refine bodyPost_ret (v := .tuple #[.agg #[.int .i64 0, .int .i64 0, .string ⟨#[]⟩], .int .i64 0, .int .i64 3]) (results_row_tmp2 rfl _ _ w.heap.size 44 _ (0, 0) _ rfl (set3 HR4.out) Try.underlying44 rfl (by kernel_rfl) rfl rfl) rfl ⟨?_, below_set3 B4 (Nat.le_refl _)⟩
        obtain ⟨a, b, c, d, e⟩ := hG.out
        rw [a, b, c, d, e]
    rcases Decidable.em (x = 2) with rfl | hx2
    · obtain ⟨X, M, E, hH, hEE, hM0, hM1, hXs, CG⟩ : ∃ (X : ByteArray) (M E : Int), Hid (hK (2 :: r) = 2 ∧ hN (2 :: r) = 0 ∧ hS (2 :: r) = X ∧ hM (2 :: r) = M ∧ hE (2 :: r) = E) ∧ (E = 0 ∨ E = 3) ∧ 0 ≤ M ∧ M ≤ 4294967296 ∧ X.size ≤ 4294967296 ∧ Hid (∀ W, Below w.heap.size w W →
          Calls Try.prog 52 #[.slice A1 (n - 1) (c - 1)] W fun e W' => e = .returned (.tuple #[.string X, .int .i64 M, .int .i64 E]) ∧ Below W.heap.size W W') := by
        refine ⟨uT (textZ r), uM (textZ r), uE (textZ r), Lib.hid (by simp [hK, hN, hS, hM, hE]), uE_or _, (uM_rng HBR.out).1, by have := (uM_rng HBR.out).2.1; have := HLR.out; omega, by have := (uM_rng HBR.out).2.2; have := HLR.out; omega, Lib.hid fun W hW => ?_⟩
        exact (refGetText_any _ _ _ r W (HSUB.out.below hW) HBR.out).mono fun e w1 h => ⟨h.1.trans (congrArg Ending.returned (textV_is _)), h.2⟩
      obtain ⟨q, hq, CR⟩ : ∃ q : Bool, Hid (rightZ 2 0 (ByteArray.size X) = q) ∧ Hid (∀ W, Calls Try.prog 29 #[.agg #[.int .i64 2, .int .i64 0, .string X]] W fun e W' => e = .returned (.bool q) ∧ Below W.heap.size W W') :=
        ⟨_, Lib.hid rfl, Lib.hid fun W => refRight_any _ _ _ W (by omega)⟩
      clear HSUB
      go_enter Try.func42, Try.ntmps42
      go_wp2_with fail
      refine (CG.out _ B1).mono ?_
      rintro e w2 ⟨rfl, b2⟩
      have B2 := below_then B1 b2
      have hv2 := row_below HV1.out b2
      have HR2 := Lib.hid (row_below HR1.out b2)
      have v0 := cell_row hv2 0; have v1 := cell_row hv2 1; have v2 := cell_row hv2 2
      have f0 := frozen_row hv2 0; have f1 := frozen_row hv2 1; have f2 := frozen_row hv2 2
      have HV3 := Lib.hid (set_row hv2 2 (.string X))
      have HR3 := Lib.hid (row_setCell (h := w.heap.size + 1) (j := 2) (x := (.string X)) HR2.out (by omega))
      have B3 := B2.setCell (p := ⟨w.heap.size + 1, 2, none⟩) (Nat.le_succ _) (.string X)
      clear hv2
      go_wp2_with fail
      refine (CR.out _).mono ?_
      rintro e w4 ⟨rfl, b4⟩
      have B4 := below_then B3 b4
      have HV4 := Lib.hid (row_below HV3.out b4)
      have HR4 := Lib.hid (row_below HR3.out b4)
      clear v0 v1 v2 f0 f1 f2
      obtain rfl | rfl := hEE
      · cases q with
        | false =>
          have hG := Lib.hid (gv_none (l := 2 :: r) (by show (decide (hE (2 :: r) = 0) && rightZ (hK (2 :: r)) (hN (2 :: r)) (hS (2 :: r)).size) = _; rw [hH.out.1, hH.out.2.1, hH.out.2.2.1, hH.out.2.2.2.2, hq.out]; rfl))
          have c0 := cell_row HR4.out 0; have c1 := cell_row HR4.out 1; have c2 := cell_row HR4.out 2
          have f0 := frozen_row HR4.out 0; have f1 := frozen_row HR4.out 1; have f2 := frozen_row HR4.out 2
          go_wp2
          refine bodyPost_ret (v := .tuple #[.agg #[.int .i64 0, .int .i64 0, .string ⟨#[]⟩], .int .i64 0, .int .i64 3]) (results_row_tmp2 rfl _ _ w.heap.size 44 _ (0, 0) _ rfl (set3 HR4.out) Try.underlying44 rfl (by kernel_rfl) rfl rfl) rfl ⟨?_, below_set3 B4 (Nat.le_refl _)⟩
          obtain ⟨a, b, c, d, e⟩ := hG.out
          rw [a, b, c, d, e]
        | true =>
          have hG : Hid (gvK (2 :: r) = 2 ∧ gvN (2 :: r) = 0 ∧ gvS (2 :: r) = X ∧ gvM (2 :: r) = 1 + M ∧ gvE (2 :: r) = 0) := by
            have h := gv_some (l := 2 :: r) (by show (decide (hE (2 :: r) = 0) && rightZ (hK (2 :: r)) (hN (2 :: r)) (hS (2 :: r)).size) = _; rw [hH.out.1, hH.out.2.1, hH.out.2.2.1, hH.out.2.2.2.2, hq.out]; rfl)
            rw [hH.out.1, hH.out.2.1, hH.out.2.2.1, hH.out.2.2.2.1] at h
            exact h
          have v0 := cell_row HV4.out 0; have v1 := cell_row HV4.out 1; have v2 := cell_row HV4.out 2
          have c0 := cell_row HR4.out 0; have c1 := cell_row HR4.out 1; have c2 := cell_row HR4.out 2
          have f0 := frozen_row HR4.out 0; have f1 := frozen_row HR4.out 1; have f2 := frozen_row HR4.out 2
          go_wp2
          refine bodyPost_ret (v := .tuple #[.agg #[.int .i64 2, .int .i64 0, .string X], .int .i64 (M + 1), .int .i64 0]) (results_row_tmp2 rfl _ _ w.heap.size 44 _ (0, 0) _ rfl (set3 HR4.out) Try.underlying44 rfl (by kernel_rfl) (by go_num) rfl) rfl ⟨?_, below_set3 B4 (Nat.le_refl _)⟩
          obtain ⟨a, b, c, d, e⟩ := hG.out
          rw [a, b, c, d, e]
          rw [Int.add_comm]
      · have hG := Lib.hid (gv_none (l := 2 :: r) (by show (decide (hE (2 :: r) = 0) && rightZ (hK (2 :: r)) (hN (2 :: r)) (hS (2 :: r)).size) = _; rw [hH.out.1, hH.out.2.1, hH.out.2.2.1, hH.out.2.2.2.2]; rfl))
        have c0 := cell_row HR4.out 0; have c1 := cell_row HR4.out 1; have c2 := cell_row HR4.out 2
        have f0 := frozen_row HR4.out 0; have f1 := frozen_row HR4.out 1; have f2 := frozen_row HR4.out 2
        go_wp2
        refine bodyPost_ret (v := .tuple #[.agg #[.int .i64 0, .int .i64 0, .string ⟨#[]⟩], .int .i64 0, .int .i64 3]) (results_row_tmp2 rfl _ _ w.heap.size 44 _ (0, 0) _ rfl (set3 HR4.out) Try.underlying44 rfl (by kernel_rfl) rfl rfl) rfl ⟨?_, below_set3 B4 (Nat.le_refl _)⟩
        obtain ⟨a, b, c, d, e⟩ := hG.out
        rw [a, b, c, d, e]
    · have hH : Hid (hK (x :: r) = x ∧ hN (x :: r) = 0 ∧ hS (x :: r) = ⟨#[]⟩ ∧ hM (x :: r) = 0 ∧ hE (x :: r) = 0) := by
        show _ ∧ _
        simp [hK, hN, hS, hM, hE, hx1, hx2]
      obtain ⟨q, hq, CR⟩ : ∃ q : Bool, Hid (rightZ x 0 (ByteArray.size ⟨#[]⟩) = q) ∧ Hid (∀ W, Calls Try.prog 29 #[.agg #[.int .i64 x, .int .i64 0, .string ⟨#[]⟩]] W fun e W' => e = .returned (.bool q) ∧ Below W.heap.size W W') :=
        ⟨_, Lib.hid rfl, Lib.hid fun W => refRight_any _ _ _ W (by decide)⟩
      clear HSUB
      go_enter Try.func42, Try.ntmps42
      go_wp2_with fail
      refine (CR.out _).mono ?_
      rintro e w4 ⟨rfl, b4⟩
      have B4 := below_then B1 b4
      have HV4 := Lib.hid (row_below HV1.out b4)
      have HR4 := Lib.hid (row_below HR1.out b4)
      cases q with
      | false =>
        have hG := Lib.hid (gv_none (l := x :: r) (by show (decide (hE (x :: r) = 0) && rightZ (hK (x :: r)) (hN (x :: r)) (hS (x :: r)).size) = _; rw [hH.out.1, hH.out.2.1, hH.out.2.2.1, hH.out.2.2.2.2, hq.out]; rfl))
        have c0 := cell_row HR4.out 0; have c1 := cell_row HR4.out 1; have c2 := cell_row HR4.out 2
        have f0 := frozen_row HR4.out 0; have f1 := frozen_row HR4.out 1; have f2 := frozen_row HR4.out 2
        go_wp2
        refine bodyPost_ret (v := .tuple #[.agg #[.int .i64 0, .int .i64 0, .string ⟨#[]⟩], .int .i64 0, .int .i64 3]) (results_row_tmp2 rfl _ _ w.heap.size 44 _ (0, 0) _ rfl (set3 HR4.out) Try.underlying44 rfl (by kernel_rfl) rfl rfl) rfl ⟨?_, below_set3 B4 (Nat.le_refl _)⟩
        obtain ⟨a, b, c, d, e⟩ := hG.out
        rw [a, b, c, d, e]
      | true =>
        have hG : Hid (gvK (x :: r) = x ∧ gvN (x :: r) = 0 ∧ gvS (x :: r) = ⟨#[]⟩ ∧ gvM (x :: r) = 1 ∧ gvE (x :: r) = 0) := by
          have h := gv_some (l := x :: r) (by show (decide (hE (x :: r) = 0) && rightZ (hK (x :: r)) (hN (x :: r)) (hS (x :: r)).size) = _; rw [hH.out.1, hH.out.2.1, hH.out.2.2.1, hH.out.2.2.2.2, hq.out]; rfl)
          rw [hH.out.1, hH.out.2.1, hH.out.2.2.1, hH.out.2.2.2.1] at h
          exact h
        have v0 := cell_row HV4.out 0; have v1 := cell_row HV4.out 1; have v2 := cell_row HV4.out 2
        have c0 := cell_row HR4.out 0; have c1 := cell_row HR4.out 1; have c2 := cell_row HR4.out 2
        have f0 := frozen_row HR4.out 0; have f1 := frozen_row HR4.out 1; have f2 := frozen_row HR4.out 2
        go_wp2
        refine bodyPost_ret (v := .tuple #[.agg #[.int .i64 x, .int .i64 0, .string ⟨#[]⟩], .int .i64 1, .int .i64 0]) (results_row_tmp2 rfl _ _ w.heap.size 44 _ (0, 0) _ rfl (set3 HR4.out) Try.underlying44 rfl (by kernel_rfl) rfl rfl) rfl ⟨?_, below_set3 B4 (Nat.le_refl _)⟩
        obtain ⟨a, b, c, d, e⟩ := hG.out
        rw [a, b, c, d, e]
end Go.Proofs.Ytijhcoidhlmecaa
