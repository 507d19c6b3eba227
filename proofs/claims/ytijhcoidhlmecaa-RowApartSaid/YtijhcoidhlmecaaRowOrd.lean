/- Layer 3: how two rows stand to one another: the code and the document's answer. -/
import Derived.Test.YtijhcoidhlmecaaRowRight
import Derived.Deep.RegionHeld3
import Derived.Deep.QuietTactic
namespace Go.Proofs.Ytijhcoidhlmecaa
set_option maxRecDepth 100000
open Go.RowKit

def sameV (x y : V3) : Bool := sameZ x.k x.n x.s y.k y.n y.s
def lessV (x y : V3) : Bool := lessZ x.k x.n x.s y.k y.n y.s
/-- with how many values, alike each, both begin -/
def alikeN : List V3 → List V3 → Nat
  | x :: a, y :: b => if sameV x y = true then alikeN a b + 1 else 0
  | _, _ => 0
def lessR : List V3 → List V3 → Bool
  | x :: a, y :: b => if sameV x y = true then lessR a b else lessV x y
  | [], _ :: _ => true
  | _, [] => false
def sameR : List V3 → List V3 → Bool
  | x :: a, y :: b => sameV x y && sameR a b
  | [], [] => true
  | _, _ => false

theorem sameV_iff (x y : V3) : sameV x y = true ↔ x = y := by
  obtain ⟨a, b, c⟩ := x; obtain ⟨d, e, f⟩ := y
  simp [sameV, sameZ, and_assoc]
theorem sameR_iff : ∀ a b : List V3, sameR a b = true ↔ a = b
  | [], [] => by simp [sameR]
  | [], y :: b => by simp [sameR]
  | x :: a, [] => by simp [sameR]
  | x :: a, y :: b => by rw [sameR, Bool.and_eq_true, sameV_iff, sameR_iff a b, List.cons.injEq]
theorem alike_le : ∀ a b : List V3, alikeN a b ≤ a.length ∧ alikeN a b ≤ b.length
  | [], b => by simp [alikeN]
  | x :: a, [] => by simp [alikeN]
  | x :: a, y :: b => by
    have := alike_le a b
    rw [alikeN]
    split <;> simp <;> omega
theorem alike_less : ∀ (a b : List V3), (∀ x y, a[alikeN a b]? = some x → b[alikeN a b]? = some y → lessR a b = lessV x y) ∧ (min a.length b.length ≤ alikeN a b → lessR a b = decide (a.length < b.length))
  | [], [] => by simp [alikeN, lessR]
  | [], y :: b => by simp [alikeN, lessR]
  | x :: a, [] => by simp [alikeN, lessR]
  | x :: a, y :: b => by
    obtain ⟨h1, h2⟩ := alike_less a b
    rw [alikeN, lessR]
    by_cases h : sameV x y = true
    · rw [if_pos h, if_pos h]
      refine ⟨fun x' y' hx hy => h1 x' y' (by simpa using hx) (by simpa using hy), fun hm => ?_⟩
      rw [h2 (by simp at hm; omega)]
      simp
    · rw [if_neg h, if_neg h]
      refine ⟨fun x' y' hx hy => ?_, fun hm => by simp at hm⟩
      simp at hx hy
      rw [hx, hy]
theorem alike_same : ∀ (a b : List V3), a.length = b.length → sameR a b = decide (alikeN a b = a.length)
  | [], [], _ => by simp [alikeN, sameR]
  | x :: a, y :: b, h => by
    have ih := alike_same a b (by simpa using h)
    rw [sameR, alikeN, ih]
    by_cases hs : sameV x y = true
    · rw [hs, if_pos rfl]; simp
    · rw [if_neg hs]; simp [hs]
theorem sameR_len {a b : List V3} (h : ¬ a.length = b.length) : sameR a b = false := by
  cases hs : sameR a b with
  | false => rfl
  | true => rw [sameR_iff] at hs; exact absurd (congrArg _ hs) h

abbrev V3.fits (v : V3) : Prop := -9223372036854775808 ≤ v.k ∧ v.k ≤ 9223372036854775807

set_option maxHeartbeats 1600000 in
theorem alike_any (A B : Option Addr) (n c m d g : Nat) (a b : List V3) (w : World) (ha : RdV w A n c a) (hb : RdV w B m d b) (hg : w.cell? ⟨g, 0, none⟩ = some (.slice B m d)) :
    Calls Try.prog 30 #[.slice A n c, .slice (some ⟨g, 0, none⟩) 1 1] w fun e w' => e = .returned (.int .i64 (alikeN a b : Int)) ∧ Below w.heap.size w w' := by
  have hla := ha.len; have hlb := hb.len; have hle := ha.le; have hle2 := hb.le
  have hgs : g < w.heap.size := block_lt_of_cell hg
  have HA := Lib.hid ha; have HB := Lib.hid hb; have HG := Lib.hid hg; have HLA := Lib.hid hla; have HLB := Lib.hid hlb
  clear ha hb hg hla hlb
  go_enter Try.func30, Try.ntmps30
  go_wp2_with fail
  go_loopw [5, 14] (fun many j wr => ((j = .int .i64 0 ∧ many = .int .i64 n) ∨ (j = .int .i64 1 ∧ many = .int .i64 (alikeN a b : Int))) ∧ Below w.heap.size w wr) (fun _ j _ => 1 - (intOf j).toNat)
  case atStart => exact ⟨.inl ⟨rfl, rfl⟩, Below.refl _ _⟩
  case round =>
    obtain ⟨⟨rfl, rfl⟩ | ⟨rfl, rfl⟩, hbel⟩ := hrel
    · have c0 := (hbel.cell (p := ⟨g, 0, none⟩) hgs).trans HG.out
      go_wp2_with fail
      obtain ⟨q, hmin, hq, hqn, hqm⟩ : ∃ q : Nat, min (n : Int) (m : Int) = q ∧ Hid (q = min n m) ∧ q ≤ n ∧ q ≤ m := ⟨min n m, by omega, rfl, by omega, by omega⟩
      rw [hmin]
      go_loopw [8] (fun i wr' => ∃ k : Nat, k ≤ q ∧ i = .int .i64 k ∧ Hid (alikeN a b = k + alikeN (a.drop k) (b.drop k)) ∧ Below w.heap.size w wr') (fun i _ => q - (intOf i).toNat)
      case atStart => exact ⟨0, Nat.zero_le _, rfl, by show _ = _; simp, hbel⟩
      case round =>
        obtain ⟨k, hk, rfl, hall, hbel2⟩ := hrel
        clear c0 hbel
        by_cases hlt : k < q
        · obtain ⟨b1, o1, x, rfl, hb1, hx, hld⟩ := HA.out.val (k := k) (by omega)
          obtain ⟨b2, o2, y, rfl, hb2, hy, hld'⟩ := HB.out.val (k := k) (by omega)
          obtain ⟨c0, c1, c2⟩ := hld _ hbel2.drew
          obtain ⟨d0, d1, d2⟩ := hld' _ hbel2.drew
          have hnext : Hid (alikeN a b = k + if sameV x y = true then alikeN (a.drop (k + 1)) (b.drop (k + 1)) + 1 else 0) := by
            show _ = _
            rw [hall.out, drop_at hx, drop_at hy, alikeN]
          obtain ⟨r, hr, P⟩ : ∃ r, Hid (sameV x y = r) ∧ Hid (∀ W, Calls Try.prog 45 #[x.agg, y.agg] W fun e W' => e = .returned (.bool r) ∧ Below W.heap.size W W') :=
            ⟨_, Lib.hid rfl, Lib.hid fun W => valSame_any _ _ _ _ _ _ W⟩
          have hki : (k : Int) < q := by omega
          have hkn : (k : Int) < n := by omega
          have hkm : (k : Int) < m := by omega
          clear hx hy hld hld' hall
          go_wp2_with fail
          have hbd := hbel2.drew
          go_region_held3 (fun W => Below w.heap.size w W ∧ W.cell? ⟨b1, o1 + k * 3, none⟩ = some (.int .i64 x.k) ∧ W.cell? ⟨b1, o1 + k * 3 + 1, none⟩ = some (.int .i64 x.n) ∧ W.cell? ⟨b1, o1 + k * 3 + 2, none⟩ = some (.string x.s) ∧ W.cell? ⟨b2, o2 + k * 3, none⟩ = some (.int .i64 y.k) ∧ W.cell? ⟨b2, o2 + k * 3 + 1, none⟩ = some (.int .i64 y.n) ∧ W.cell? ⟨b2, o2 + k * 3 + 2, none⟩ = some (.string y.s))
            (first
              | (go_split_ands
                 refine ⟨?_, ?_, ?_, ?_, ?_, ?_, ?_⟩
                 · exact below_then (by assumption) bb
                 all_goals exact (bb.cell (World.block_lt_of_cell? _ _ (by assumption))).trans (by assumption))
              | (go_split_ands
                 refine ⟨?_, ?_, ?_, ?_, ?_, ?_, ?_⟩
                 all_goals assumption)
              | go_keep)
            (first
              | (go_at_call 45; refine (P.out _).mono ?_; rintro e w2 ⟨rfl, bb⟩))
          all_goals
            clear c0 c1 c2 d0 d1 d2
            have B2 := below_then hbd bb
            cases r with
            | true =>
              go_wp2
              exact ⟨⟨k + 1, by omega, by go_num, by show _ = _; rw [hnext.out, hr.out, if_pos rfl]; omega, B2⟩, by simp [intOf]; omega⟩
            | false =>
              have hN : Hid (alikeN a b = k) := by show _ = _; rw [hnext.out, hr.out, if_neg (by decide)]; omega
              go_wp2
              exact ⟨⟨.inr ⟨by go_num, by rw [hN.out]⟩, B2⟩, by simp [intOf]⟩
        · have hki : ¬ (k : Int) < q := by omega
          have hN : Hid (alikeN a b = k) := by
            show _ = _
            rw [hall.out]
            have h1 := alike_le (a.drop k) (b.drop k)
            have h2 := HLA.out; have h3 := HLB.out; have h4 := hq.out
            rw [List.length_drop, List.length_drop] at h1
            omega
          go_wp2
          go_quiet (fail)
          have B2 := below_drewN hbel2 nq
          go_wp2
          exact ⟨⟨.inr ⟨by go_num, by rw [hN.out]⟩, B2⟩, by simp [intOf]⟩
    · go_wp2
      go_ret
      exact ⟨rfl, hbel⟩
set_option maxHeartbeats 1600000 in
theorem rowLess_any (A B : Option Addr) (n c m d : Nat) (a b : List V3) (w : World) (ha : RdV w A n c a) (hb : RdV w B m d b) :
    Calls Try.prog 17 #[.slice A n c, .slice B m d] w fun e w' => e = .returned (.bool (lessR a b)) ∧ Below w.heap.size w w' := by
  have hla := ha.len; have hlb := hb.len; have hle := ha.le; have hle2 := hb.le
  have h0 := heap_alloc_new w (.cells #[.slice B m d] 24)
  have hg := cell_row h0 0
  simp only [List.getElem?_toArray, List.getElem?_cons_zero] at hg
  have B0 := below_new (Below.refl w.heap.size w) (.cells #[.slice B m d] 24)
  obtain ⟨q, hq, hqn, hqm, P⟩ : ∃ q : Nat, Hid (alikeN a b = q) ∧ q ≤ n ∧ q ≤ m ∧ Hid (∀ W, Below w.heap.size w W → W.cell? ⟨w.heap.size, 0, none⟩ = some (.slice B m d) → Calls Try.prog 30 #[.slice A n c, .slice (some ⟨w.heap.size, 0, none⟩) 1 1] W fun e W' => e = .returned (.int .i64 (q : Int)) ∧ Below W.heap.size W W') :=
    ⟨_, Lib.hid rfl, by have := (alike_le a b).1; omega, by have := (alike_le a b).2; omega, Lib.hid fun W hw hg => alike_any _ _ _ _ _ _ _ _ _ W (ha.below hw) (hb.below hw) hg⟩
  have HA := Lib.hid ha; have HB := Lib.hid hb; have HLA := Lib.hid hla; have HLB := Lib.hid hlb; have HG := Lib.hid hg
  clear ha hb hla hlb h0 hg
  by_cases hlt : q < min n m
  · have hmi : (q : Int) < min (n : Int) (m : Int) := by omega
    go_enter Try.func17, Try.ntmps17
    go_wp2_with fail
    refine (P.out _ B0 HG.out).mono ?_
    rintro e w2 ⟨rfl, bb2⟩
    have B2 := below_then B0 bb2
    obtain ⟨b1, o1, x, rfl, hb1, hx, hld⟩ := HA.out.val (k := q) (by omega)
    obtain ⟨b2, o2, y, rfl, hb2, hy, hld'⟩ := HB.out.val (k := q) (by omega)
    obtain ⟨c0, c1, c2⟩ := hld _ B2.drew
    obtain ⟨d0, d1, d2⟩ := hld' _ B2.drew
    have hbd := B2.drew
    have hki : (q : Int) < n := by omega
    have hki2 : (q : Int) < m := by omega
    obtain ⟨r, hr, PL⟩ : ∃ r, Hid (lessR a b = r) ∧ Hid (∀ W, Calls Try.prog 31 #[x.agg, y.agg] W fun e W' => e = .returned (.bool r) ∧ Below W.heap.size W W') :=
      ⟨_, Lib.hid ((alike_less a b).1 x y (by rw [hq.out]; exact hx) (by rw [hq.out]; exact hy)), Lib.hid fun W => less_any _ _ _ _ _ _ W⟩
    clear hx hy hld hld'
    go_wp2_with fail
    go_region_held3 (fun W => Below w.heap.size w W ∧ W.cell? ⟨b1, o1 + q * 3, none⟩ = some (.int .i64 x.k) ∧ W.cell? ⟨b1, o1 + q * 3 + 1, none⟩ = some (.int .i64 x.n) ∧ W.cell? ⟨b1, o1 + q * 3 + 2, none⟩ = some (.string x.s) ∧ W.cell? ⟨b2, o2 + q * 3, none⟩ = some (.int .i64 y.k) ∧ W.cell? ⟨b2, o2 + q * 3 + 1, none⟩ = some (.int .i64 y.n) ∧ W.cell? ⟨b2, o2 + q * 3 + 2, none⟩ = some (.string y.s))
      (first
        | (go_split_ands
           refine ⟨?_, ?_, ?_, ?_, ?_, ?_, ?_⟩
           · exact below_then (by assumption) bb
           all_goals exact (bb.cell (World.block_lt_of_cell? _ _ (by assumption))).trans (by assumption))
        | (go_split_ands
           refine ⟨?_, ?_, ?_, ?_, ?_, ?_, ?_⟩
           · exact Below.drew (by assumption)
           all_goals (show World.cell? _ _ = _; assumption))
        | (go_split_ands
           refine ⟨?_, ?_, ?_, ?_, ?_, ?_, ?_⟩
           all_goals assumption)
        | go_keep)
      (first
        | (go_at_call 31; refine (PL.out _).mono ?_; rintro e wx ⟨rfl, bb⟩))
    all_goals
      go_wp2
      go_ret
      (try go_split_ands)
      exact ⟨ret_bool hr.out.symm, by assumption⟩
  · have hmi : ¬ (q : Int) < min (n : Int) (m : Int) := by omega
    have hr := Lib.hid ((alike_less a b).2 (by rw [hq.out, HLA.out, HLB.out]; omega))
    go_enter Try.func17, Try.ntmps17
    go_wp2_with fail
    refine (P.out _ B0 HG.out).mono ?_
    rintro e w2 ⟨rfl, bb2⟩
    have B2 := below_then B0 bb2
    go_wp2
    go_ret
    refine ⟨ret_bool ?_, B2⟩
    rw [hr.out, HLA.out, HLB.out]

set_option maxHeartbeats 1600000 in
theorem rowSame_any (A B : Option Addr) (n c m d : Nat) (a b : List V3) (w : World) (ha : RdV w A n c a) (hb : RdV w B m d b) :
    Calls Try.prog 19 #[.slice A n c, .slice B m d] w fun e w' => e = .returned (.bool (sameR a b)) ∧ Below w.heap.size w w' := by
  have hla := ha.len; have hlb := hb.len; have hle := ha.le; have hle2 := hb.le
  have h0 := heap_alloc_new w (.cells #[.slice B m d] 24)
  have hg := cell_row h0 0
  simp only [List.getElem?_toArray, List.getElem?_cons_zero] at hg
  have B0 := below_new (Below.refl w.heap.size w) (.cells #[.slice B m d] 24)
  obtain ⟨q, hq, hqn, hqm, P⟩ : ∃ q : Nat, Hid (alikeN a b = q) ∧ q ≤ n ∧ q ≤ m ∧ Hid (∀ W, Below w.heap.size w W → W.cell? ⟨w.heap.size, 0, none⟩ = some (.slice B m d) → Calls Try.prog 30 #[.slice A n c, .slice (some ⟨w.heap.size, 0, none⟩) 1 1] W fun e W' => e = .returned (.int .i64 (q : Int)) ∧ Below W.heap.size W W') :=
    ⟨_, Lib.hid rfl, by have := (alike_le a b).1; omega, by have := (alike_le a b).2; omega, Lib.hid fun W hw hg => alike_any _ _ _ _ _ _ _ _ _ W (ha.below hw) (hb.below hw) hg⟩
  have HA := Lib.hid ha; have HB := Lib.hid hb; have HLA := Lib.hid hla; have HLB := Lib.hid hlb; have HG := Lib.hid hg
  clear ha hb hla hlb h0 hg
  by_cases hnm : n = m
  · subst hnm
    have hr := Lib.hid (alike_same a b (by rw [HLA.out, HLB.out]))
    go_enter Try.func19, Try.ntmps19
    go_wp2_with fail
    refine (P.out _ B0 HG.out).mono ?_
    rintro e w2 ⟨rfl, bb2⟩
    have B2 := below_then B0 bb2
    go_wp2
    go_ret
    refine ⟨ret_bool ?_, B2⟩
    rw [hr.out, hq.out, HLA.out]
    by_cases hqq : q = n <;> simp [hqq] <;> omega
  · have hmi : ¬ (n : Int) = m := by omega
    have hr := Lib.hid (sameR_len (a := a) (b := b) (by rw [HLA.out, HLB.out]; exact hnm))
    go_enter Try.func19, Try.ntmps19
    go_wp2
    go_ret
    refine ⟨ret_bool ?_, Below.refl _ _⟩
    rw [hr.out]

set_option maxHeartbeats 1600000 in
theorem refRowLess_any (A B : Option Addr) (n c m d : Nat) (a b : List V3) (w : World) (ha : RdV w A n c a) (hb : RdV w B m d b) :
    Calls Try.prog 18 #[.slice A n c, .slice B m d] w fun e w' => e = .returned (.bool (lessR a b)) ∧ Below w.heap.size w w' := by
  have hla := ha.len; have hlb := hb.len; have hle := ha.le; have hle2 := hb.le
  have HA := Lib.hid ha; have HB := Lib.hid hb; have HLA := Lib.hid hla; have HLB := Lib.hid hlb
  clear ha hb hla hlb
  go_enter Try.func18, Try.ntmps18
  go_wp2_with fail
  go_loopw [5] (fun i wr => ∃ k : Nat, k ≤ min n m ∧ i = .int .i64 k ∧ Hid (lessR a b = lessR (a.drop k) (b.drop k)) ∧ Below w.heap.size w wr) (fun i _ => min n m - (intOf i).toNat)
  case atStart => exact ⟨0, Nat.zero_le _, rfl, by show _ = _; simp, Below.refl _ _⟩
  case round =>
    obtain ⟨k, hk, rfl, hall, hbel⟩ := hrel
    by_cases hlt : k < n ∧ k < m
    · obtain ⟨hlt1, hlt2⟩ := hlt
      obtain ⟨b1, o1, x, rfl, hb1, hx, hld⟩ := HA.out.val (k := k) (by omega)
      obtain ⟨b2, o2, y, rfl, hb2, hy, hld'⟩ := HB.out.val (k := k) (by omega)
      obtain ⟨c0, c1, c2⟩ := hld _ hbel.drew
      obtain ⟨d0, d1, d2⟩ := hld' _ hbel.drew
      have hbd := hbel.drew
      have hki : (k : Int) < n := by omega
      have hkm : (k : Int) < m := by omega
      obtain ⟨r, hr, PS⟩ : ∃ r, Hid (sameV x y = r) ∧ Hid (∀ W, Calls Try.prog 32 #[x.agg, y.agg] W fun e W' => e = .returned (.bool r) ∧ Below W.heap.size W W') :=
        ⟨_, Lib.hid rfl, Lib.hid fun W => refValSame_any _ _ _ _ _ _ W⟩
      have hnext : Hid (lessR a b = if sameV x y = true then lessR (a.drop (k + 1)) (b.drop (k + 1)) else lessV x y) := by
        show _ = _
        rw [hall.out, drop_at hx, drop_at hy, lessR]
      obtain ⟨u, hu, PL⟩ : ∃ u, Hid (lessV x y = u) ∧ Hid (∀ W, Calls Try.prog 33 #[x.agg, y.agg] W fun e W' => e = .returned (.bool u) ∧ Below W.heap.size W W') :=
        ⟨_, Lib.hid rfl, Lib.hid fun W => refLess_any _ _ _ _ _ _ W⟩
      have LX := Lib.hid hld; have LY := Lib.hid hld'
      clear hx hy hld hld' hall
      go_wp2_with fail
      go_region_held3 (fun W => Below w.heap.size w W ∧ W.cell? ⟨b1, o1 + k * 3, none⟩ = some (.int .i64 x.k) ∧ W.cell? ⟨b1, o1 + k * 3 + 1, none⟩ = some (.int .i64 x.n) ∧ W.cell? ⟨b1, o1 + k * 3 + 2, none⟩ = some (.string x.s) ∧ W.cell? ⟨b2, o2 + k * 3, none⟩ = some (.int .i64 y.k) ∧ W.cell? ⟨b2, o2 + k * 3 + 1, none⟩ = some (.int .i64 y.n) ∧ W.cell? ⟨b2, o2 + k * 3 + 2, none⟩ = some (.string y.s))
        (first
          | (go_split_ands
             refine ⟨?_, ?_, ?_, ?_, ?_, ?_, ?_⟩
             · exact below_then (by assumption) bb
             all_goals exact (bb.cell (World.block_lt_of_cell? _ _ (by assumption))).trans (by assumption))
          | (go_split_ands
             refine ⟨?_, ?_, ?_, ?_, ?_, ?_, ?_⟩
             · exact Below.drew (by assumption)
             all_goals (show World.cell? _ _ = _; assumption))
          | (go_split_ands
             refine ⟨?_, ?_, ?_, ?_, ?_, ?_, ?_⟩
             all_goals assumption)
          | go_keep)
        (first
          | (go_at_call 32; refine (PS.out _).mono ?_; rintro e wx ⟨rfl, bb⟩))
      all_goals
        have B2 := below_then hbd bb
        go_split_ands
        clear c0 c1 c2 d0 d1 d2
        cases r with
        | true =>
          go_wp2
          exact ⟨⟨k + 1, by omega, by go_num, by show _ = _; rw [hnext.out, hr.out, if_pos rfl], B2⟩, by simp [intOf]; omega⟩
        | false =>
          have hN := Lib.hid (show lessR a b = u by rw [hnext.out, hr.out, if_neg (by decide), hu.out])
          obtain ⟨c0, c1, c2⟩ := LX.out _ B2.drew
          obtain ⟨d0, d1, d2⟩ := LY.out _ B2.drew
          have hbd2 := B2.drew
          go_wp2_with fail
          go_region_held3 (fun W => Below w.heap.size w W ∧ W.cell? ⟨b1, o1 + k * 3, none⟩ = some (.int .i64 x.k) ∧ W.cell? ⟨b1, o1 + k * 3 + 1, none⟩ = some (.int .i64 x.n) ∧ W.cell? ⟨b1, o1 + k * 3 + 2, none⟩ = some (.string x.s) ∧ W.cell? ⟨b2, o2 + k * 3, none⟩ = some (.int .i64 y.k) ∧ W.cell? ⟨b2, o2 + k * 3 + 1, none⟩ = some (.int .i64 y.n) ∧ W.cell? ⟨b2, o2 + k * 3 + 2, none⟩ = some (.string y.s))
            (first
              | (go_split_ands
                 refine ⟨?_, ?_, ?_, ?_, ?_, ?_, ?_⟩
                 · exact below_then (by assumption) bb3
                 all_goals exact (bb3.cell (World.block_lt_of_cell? _ _ (by assumption))).trans (by assumption))
              | (go_split_ands
                 refine ⟨?_, ?_, ?_, ?_, ?_, ?_, ?_⟩
                 · exact Below.drew (by assumption)
                 all_goals (show World.cell? _ _ = _; assumption))
              | (go_split_ands
                 refine ⟨?_, ?_, ?_, ?_, ?_, ?_, ?_⟩
                 all_goals assumption)
              | go_keep)
            (first
              | (go_at_call 33; refine (PL.out _).mono ?_; rintro e wx ⟨rfl, bb3⟩))
          all_goals
            have B3 := below_then hbd2 bb3
            go_wp2
            go_ret
            exact ⟨ret_bool hN.out.symm, B3⟩
    · have hN : Hid (lessR a b = decide (n < m)) := by
        show _ = _
        rw [hall.out]
        have h2 := (alike_less (a.drop k) (b.drop k)).2
        rw [List.length_drop, List.length_drop, HLA.out, HLB.out] at h2
        rw [h2 (by omega)]
        congr 1
        exact propext ⟨fun h => by omega, fun h => by omega⟩
      rcases (show ¬ (k : Int) < n ∨ ((k : Int) < n ∧ ¬ (k : Int) < m) by omega) with h1 | ⟨h1, h2⟩
      all_goals
        go_wp2
        go_ret
        refine ⟨ret_bool ?_, hbel⟩
        rw [hN.out]

set_option maxHeartbeats 1600000 in
theorem refRowSame_any (A B : Option Addr) (n c m d : Nat) (a b : List V3) (w : World) (ha : RdV w A n c a) (hb : RdV w B m d b) :
    Calls Try.prog 20 #[.slice A n c, .slice B m d] w fun e w' => e = .returned (.bool (sameR a b)) ∧ Below w.heap.size w w' := by
  have hla := ha.len; have hlb := hb.len; have hle := ha.le; have hle2 := hb.le
  have HA := Lib.hid ha; have HB := Lib.hid hb; have HLA := Lib.hid hla; have HLB := Lib.hid hlb
  clear ha hb hla hlb
  rcases Decidable.em (n = m) with rfl | hnm
  rotate_left
  · have hmi : ¬ (n : Int) = m := by omega
    have hr := Lib.hid (sameR_len (a := a) (b := b) (by rw [HLA.out, HLB.out]; exact hnm))
    go_enter Try.func20, Try.ntmps20
    go_wp2
    go_ret
    refine ⟨ret_bool ?_, Below.refl _ _⟩
    rw [hr.out]
  go_enter Try.func20, Try.ntmps20
  go_wp2_with fail
  go_loopw [5] (fun i wr => ∃ k : Nat, k ≤ n ∧ i = .int .i64 k ∧ Hid (sameR a b = sameR (a.drop k) (b.drop k)) ∧ Below w.heap.size w wr) (fun i _ => n - (intOf i).toNat)
  case atStart => exact ⟨0, Nat.zero_le _, rfl, by show _ = _; simp, Below.refl _ _⟩
  case round =>
    obtain ⟨k, hk, rfl, hall, hbel⟩ := hrel
    by_cases hlt : k < n
    · skip
      obtain ⟨b1, o1, x, rfl, hb1, hx, hld⟩ := HA.out.val (k := k) (by omega)
      obtain ⟨b2, o2, y, rfl, hb2, hy, hld'⟩ := HB.out.val (k := k) (by omega)
      obtain ⟨c0, c1, c2⟩ := hld _ hbel.drew
      obtain ⟨d0, d1, d2⟩ := hld' _ hbel.drew
      have hbd := hbel.drew
      have hki : (k : Int) < n := by omega
      obtain ⟨r, hr, PS⟩ : ∃ r, Hid (sameV x y = r) ∧ Hid (∀ W, Calls Try.prog 32 #[x.agg, y.agg] W fun e W' => e = .returned (.bool r) ∧ Below W.heap.size W W') :=
        ⟨_, Lib.hid rfl, Lib.hid fun W => refValSame_any _ _ _ _ _ _ W⟩
      have hnext : Hid (sameR a b = (sameV x y && sameR (a.drop (k + 1)) (b.drop (k + 1)))) := by
        show _ = _
        rw [hall.out, drop_at hx, drop_at hy, sameR]
      clear hx hy hld hld' hall
      go_wp2_with fail
      go_region_held3 (fun W => Below w.heap.size w W ∧ W.cell? ⟨b1, o1 + k * 3, none⟩ = some (.int .i64 x.k) ∧ W.cell? ⟨b1, o1 + k * 3 + 1, none⟩ = some (.int .i64 x.n) ∧ W.cell? ⟨b1, o1 + k * 3 + 2, none⟩ = some (.string x.s) ∧ W.cell? ⟨b2, o2 + k * 3, none⟩ = some (.int .i64 y.k) ∧ W.cell? ⟨b2, o2 + k * 3 + 1, none⟩ = some (.int .i64 y.n) ∧ W.cell? ⟨b2, o2 + k * 3 + 2, none⟩ = some (.string y.s))
        (first
          | (go_split_ands
             refine ⟨?_, ?_, ?_, ?_, ?_, ?_, ?_⟩
             · exact below_then (by assumption) bb
             all_goals exact (bb.cell (World.block_lt_of_cell? _ _ (by assumption))).trans (by assumption))
          | (go_split_ands
             refine ⟨?_, ?_, ?_, ?_, ?_, ?_, ?_⟩
             · exact Below.drew (by assumption)
             all_goals (show World.cell? _ _ = _; assumption))
          | (go_split_ands
             refine ⟨?_, ?_, ?_, ?_, ?_, ?_, ?_⟩
             all_goals assumption)
          | go_keep)
        (first
          | (go_at_call 32; refine (PS.out _).mono ?_; rintro e wx ⟨rfl, bb⟩))
      all_goals
        have B2 := below_then hbd bb
        clear c0 c1 c2 d0 d1 d2
        cases r with
        | true =>
          go_wp2
          exact ⟨⟨k + 1, by omega, by go_num, by show _ = _; rw [hnext.out, hr.out, Bool.true_and], B2⟩, by simp [intOf]; omega⟩
        | false =>
          have hN := Lib.hid (show sameR a b = false by rw [hnext.out, hr.out, Bool.false_and])
          go_wp2
          go_ret
          exact ⟨ret_bool hN.out.symm, B2⟩
    · have hN : Hid (sameR a b = true) := by
        show _ = _
        rw [hall.out, List.drop_of_length_le (by rw [HLA.out]; omega), List.drop_of_length_le (by rw [HLB.out]; omega)]
        rfl
      go_wp2
      go_ret
      exact ⟨ret_bool hN.out.symm, hbel⟩
end Go.Proofs.Ytijhcoidhlmecaa
