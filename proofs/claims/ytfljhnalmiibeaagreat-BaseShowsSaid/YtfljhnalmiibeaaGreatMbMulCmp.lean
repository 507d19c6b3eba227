/- Several texts laid together: MulCmp, MulIns, MulIns2, BasMem. -/
import Derived.Test.YtfljhnalmiibeaaGreatMbBasMath
import Derived.Deep.RegionHeld3
import Derived.Deep.QuietTactic
import Derived.BigQuiet
import Derived.Laws.NewBlocks
import Derived.WideKeyRuns
import Derived.MapKept
import Derived.Test.YtfljhnalmiibeaaGreatMbValMath
import Derived.Deep.WholeRow
import Derived.Shelf.Spec.SlicesInsert
import Derived.Lib.AppendZerosOnto
import Derived.Laws.CopyOwn
import Derived.Laws.CopyRow
import Derived.Shelf.SlSortCmp.QuietGrown
import Derived.Shelf.RegionOpenPlain
import Derived.BigRegion
import Derived.IntWalk
import Derived.Shelf.Abstract
import Derived.Deep.DeepCutAuto
import Derived.Deep.CutBlock
import Derived.Deep.RegionWith
namespace Go.Proofs.YtfljhnalmiibeaaGreat
set_option maxRecDepth 100000
open Go.RowKit
theorem isNaN_any (x : Int) (w : World) : Calls Tryz.prog 108 #[.int .i64 x] w fun e w' => e = .returned (.bool false) ∧ w' = w := by
  go_enter Tryz.func108, Tryz.ntmps108
  go_wp2
  go_ret
  exact ⟨by simp, rfl⟩
theorem cmpCompare_any (x y : Int) (w : World) : Calls Tryz.prog 73 #[.int .i64 x, .int .i64 y] w fun e w' => e = .returned (.int .i64 (sgnI x y)) ∧ w' = w := by
  have P := Lib.hid (fun z : Int => isNaN_any z)
  rcases Int.lt_trichotomy x y with h | h | h
  · have hr := Lib.hid (show sgnI x y = -1 by simp [sgnI, h])
    go_enter Tryz.func73, Tryz.ntmps73
    go_wp2_with (go_at_call 108; refine (P.out _ _).mono ?_; rintro e w' ⟨rfl, rfl⟩)
    go_ret
    exact ⟨by rw [hr.out]; rfl, rfl⟩
  · subst h
    have hr := Lib.hid (show sgnI x x = 0 by simp [sgnI])
    go_enter Tryz.func73, Tryz.ntmps73
    go_wp2_with (go_at_call 108; refine (P.out _ _).mono ?_; rintro e w' ⟨rfl, rfl⟩)
    go_ret
    exact ⟨by rw [hr.out]; rfl, rfl⟩
  · have h2 : ¬ x < y := by omega
    have hr := Lib.hid (show sgnI x y = 1 by simp [sgnI, h2, h])
    go_enter Tryz.func73, Tryz.ntmps73
    go_wp2_with (go_at_call 108; refine (P.out _ _).mono ?_; rintro e w' ⟨rfl, rfl⟩)
    go_ret
    exact ⟨by rw [hr.out]; rfl, rfl⟩
/-- the first of two numbers that is not 0 -/
def orI (x y : Int) : Int := if x = 0 then y else x
abbrev twoCells (x y : Int) : Obj := .cells #[.int .i64 x, .int .i64 y] 3
theorem cmpOr_any (x y : Int) (w : World) (b : Nat) (h : w.heap[b]? = some (twoCells x y)) :
    Calls Tryz.prog 72 #[.slice (some ⟨b, 0, none⟩) 2 2] w fun e w' => e = .returned (.int .i64 (orI x y)) ∧ w' = w := by
  have c0 := cell_row h 0; have c1 := cell_row h 1
  simp only [List.getElem?_toArray, List.getElem?_cons_zero, List.getElem?_cons_succ] at c0 c1
  obtain ⟨r, hr⟩ : ∃ r, Hid (orI x y = r) := ⟨_, rfl⟩
  rw [hr.out]
  clear h
  go_enter Tryz.func72, Tryz.ntmps72
  go_wp2_with fail
  go_loopw [8] (fun i wr => ∃ k : Nat, k ≤ 2 ∧ i = .int .i64 k ∧ Hid (0 < k → x = 0) ∧ Hid (1 < k → y = 0) ∧ wr = w) (fun i _ => 2 - (intOf i).toNat)
  case atStart => exact ⟨0, by omega, rfl, fun h => by omega, fun h => by omega, rfl⟩
  case round =>
    obtain ⟨k, hk, rfl, hx, hy, rfl⟩ := hrel
    rcases (show k = 0 ∨ k = 1 ∨ k = 2 by omega) with rfl | rfl | rfl
    · by_cases h0 : x = 0
      · obtain rfl := h0
        go_wp2
        exact ⟨⟨1, by omega, rfl, fun _ => by trivial, fun h => by omega, by trivial⟩, by simp [intOf]⟩
      · have hb : (x == 0) = false := by simpa using h0
        have hr2 : Hid (x = r) := by show _ = _; rw [← hr.out, orI, if_neg h0]
        go_wp2
        go_ret
        exact ⟨ret_int hr2.out, rfl⟩
    · have hxx := hx.out (by omega)
      by_cases h0 : y = 0
      · obtain rfl := h0
        go_wp2
        exact ⟨⟨2, by omega, rfl, fun _ => hxx, fun _ => by trivial, by trivial⟩, by simp [intOf]⟩
      · have hb : (y == 0) = false := by simpa using h0
        have hr2 : Hid (y = r) := by show _ = _; rw [← hr.out, orI, if_pos hxx]
        clear hxx
        go_wp2
        go_ret
        exact ⟨ret_int hr2.out, rfl⟩
    · have hr2 : Hid (0 = r) := by show _ = _; rw [← hr.out, orI, if_pos (hx.out (by omega)), hy.out (by omega)]
      go_wp2
      go_ret
      exact ⟨ret_int hr2.out, rfl⟩
abbrev dotRow (a : D2) : Obj := .cells #[.int .i64 a.d, .int .i64 a.s] 40
theorem dot_row {w : World} {g : Nat} {x : D2} (h : w.heap[g]? = some (dotRow x)) : w.cell? ⟨g, 0, none⟩ = some (.int .i64 x.d) ∧ w.cell? ⟨g, 1, none⟩ = some (.int .i64 x.s) := by
  have h2 := cell_row h
  refine ⟨?_, ?_⟩ <;> (rw [h2]; rfl)
set_option maxHeartbeats 1600000 in
theorem compare_any (a b : D2) (w : World) : Calls Tryz.prog 159 #[a.agg, b.agg] w fun e w' => e = .returned (.int .i64 (cmpD a b)) ∧ Grown w w' := by
  have P := Lib.hid (fun x y => cmpCompare_any x y)
  have OR := Lib.hid (fun (x y : Int) (W : World) => cmpOr_any x y (W.alloc (twoCells x y)).drew W.heap.size (row_drew (heap_alloc_new _ _)))
  have hg0 := ((Grown.refl w).alloc (dotRow a)).alloc (dotRow b)
  have hA := dot_row (show ((w.alloc (dotRow a)).alloc (dotRow b)).heap[w.heap.size]? = some (dotRow a) by rw [Below.heap_alloc _ _ _ (by simp)]; exact heap_alloc_new _ _)
  have hB := dot_row (show ((w.alloc (dotRow a)).alloc (dotRow b)).heap[w.heap.size + 1]? = some (dotRow b) by
    have := heap_alloc_new (w.alloc (dotRow a)) (dotRow b)
    rwa [World.size_alloc] at this)
  obtain ⟨c0, c1⟩ := hA; obtain ⟨c2, c3⟩ := hB
  obtain ⟨w1, hw1⟩ : ∃ w1, w1 = (w.alloc (dotRow a)).alloc (dotRow b) := ⟨_, rfl⟩
  rw [← hw1] at hg0 c0 c1 c2 c3
  have K : Hid (∀ W, Grown w1 W → W.cell? ⟨w.heap.size, 0, none⟩ = some (.int .i64 a.d) ∧ W.cell? ⟨w.heap.size, 1, none⟩ = some (.int .i64 a.s) ∧ W.cell? ⟨w.heap.size + 1, 0, none⟩ = some (.int .i64 b.d) ∧ W.cell? ⟨w.heap.size + 1, 1, none⟩ = some (.int .i64 b.s)) := by
    intro W hW
    have h1 : w.heap.size < w1.heap.size := by rw [hw1]; simp; omega
    have h2 : w.heap.size + 1 < w1.heap.size := by rw [hw1]; simp
    exact ⟨(hW.below.cell (p := ⟨_, 0, none⟩) h1).trans c0, (hW.below.cell (p := ⟨_, 1, none⟩) h1).trans c1, (hW.below.cell (p := ⟨_, 0, none⟩) h2).trans c2, (hW.below.cell (p := ⟨_, 1, none⟩) h2).trans c3⟩
  have hg1 := (Grown.refl w1).drew
  have HG0 := Lib.hid hg0
  clear hg0
  go_enter Tryz.func159, Tryz.ntmps159
  go_wp2_with fail
  rw [← hw1]
  clear hw1
  go_region_held3 (fun W => Grown w1 W ∧ W.cell? ⟨w.heap.size, 0, none⟩ = some (.int .i64 a.d) ∧ W.cell? ⟨w.heap.size, 1, none⟩ = some (.int .i64 a.s) ∧ W.cell? ⟨w.heap.size + 1, 0, none⟩ = some (.int .i64 b.d) ∧ W.cell? ⟨w.heap.size + 1, 1, none⟩ = some (.int .i64 b.s))
    (first
      | (refine ⟨?_, K.out _ ?_⟩ <;> (go_split_ands; (first | assumption | exact Grown.alloc (by assumption) _))))
    (first
      | (go_at_call 73; refine (P.out _ _ _).mono ?_; rintro e wx ⟨rfl, rfl⟩)
      | (go_at_call 72; refine (OR.out _ _ _).mono ?_; rintro e wx ⟨rfl, rfl⟩))
  all_goals
    go_wp2
    go_ret
    exact ⟨rfl, Grown.trans HG0.out (Grown.drew (Grown.alloc (Grown.refl _) _))⟩
set_option maxHeartbeats 800000 in
theorem above_any (a b : D2) (w : World) : Calls Tryz.prog 50 #[a.agg, b.agg] w fun e w' => e = .returned (.bool (aboveD a b)) ∧ Below w.heap.size w w' := by
  have hg0 := below_new (below_new (Below.refl w.heap.size w) (dotRow a)) (dotRow b)
  have hA := dot_row (show ((w.alloc (dotRow a)).alloc (dotRow b)).heap[w.heap.size]? = some (dotRow a) by rw [Below.heap_alloc _ _ _ (by simp)]; exact heap_alloc_new _ _)
  have hB := dot_row (show ((w.alloc (dotRow a)).alloc (dotRow b)).heap[w.heap.size + 1]? = some (dotRow b) by
    have := heap_alloc_new (w.alloc (dotRow a)) (dotRow b)
    rwa [World.size_alloc] at this)
  obtain ⟨c0, c1⟩ := hA; obtain ⟨c2, c3⟩ := hB
  obtain ⟨r, hr⟩ : ∃ r, Hid (aboveD a b = r) := ⟨_, rfl⟩
  rw [hr.out]
  have HG0 := Lib.hid hg0
  clear hg0
  rcases Decidable.em (b.d < a.d) with h1 | h1
  · have HR : Hid (true = r) := by show _ = _; rw [← hr.out, aboveD]; simp [h1]
    go_enter Tryz.func50, Tryz.ntmps50
    go_wp2
    go_ret
    exact ⟨ret_bool HR.out, HG0.out⟩
  · rcases Decidable.em (a.d = b.d) with h2 | h2
    · have HR : Hid (decide (b.s < a.s) = r) := by show _ = _; rw [← hr.out, aboveD]; simp [h2]
      obtain ⟨ad, az⟩ := a; obtain ⟨bd, bs⟩ := b
      simp only at h2
      subst h2
      go_enter Tryz.func50, Tryz.ntmps50
      go_wp2
      all_goals go_ret
      all_goals exact ⟨ret_bool HR.out, HG0.out⟩
    · have hne : (a.d == b.d) = false := by simpa using h2
      have HR : Hid (false = r) := by show _ = _; rw [← hr.out, aboveD]; simp [h1, h2]
      go_enter Tryz.func50, Tryz.ntmps50
      go_wp2
      go_ret
      exact ⟨ret_bool HR.out, HG0.out⟩
end Go.Proofs.YtfljhnalmiibeaaGreat

namespace Go.Proofs.YtfljhnalmiibeaaGreat
set_option maxRecDepth 100000
open Go.RowKit
theorem run_copyK {P : Program} (w : World) (dT sT ty elem : TypeId) (sz g o dLen dCap : Nat) (a : Addr) (sLen sCap : Nat) (cur : List Value) (t : TypeId) (cs : List Value) (m : Nat)
    (hu : P.underlying dT = some (.slice elem)) (hs : (P.info? elem).map (·.size) = some sz)
    (hg : w.heap[g]? = some (.cells cur.toArray t (0, 0))) (hm : Nat.min sLen dLen = m) (hn : cs.length = m * sz)
    (hsrc : ∀ j v, cs[j]? = some v → w.cell? (a.add j) = some v) (hfit : o + cs.length ≤ cur.length) (h1 : ∀ v ∈ cs, v.oneCell' = true) :
    (Builtin.copy_ #[dT, sT] ty #[.slice (some ⟨g, o, none⟩) dLen dCap, .slice (some a) sLen sCap]).run P w = .ok (goInt m) (w.setRow g (splice cur o cs).toArray) := by
  have hl := run_loadCells_list (P := P) w a cs hsrc
  have hst := run_storeCells_at P g o t cs 0 cur.toArray w hg (by simpa using hfit) h1
  cases hq : P.info? elem with
  | none => simp [hq] at hs
  | some i =>
    have hi : i.size = sz := by simpa [hq] using hs
    have hl2 : (loadCells a (m * sz)).run P w = .ok cs.toArray w := by rw [← hn]; exact hl
    have hf : (Builtin.firstCells sz m (.slice (some a) sLen sCap)).run P w = .ok cs.toArray w := by
      unfold Builtin.firstCells
      by_cases h0 : m = 0
      · subst h0
        have : cs = [] := List.eq_nil_of_length_eq_zero (by rw [hn, Nat.zero_mul])
        subst this
        simp [loadCells, loadCellsFrom]
      · simpa [h0] using hl2
    simp only [Nat.add_zero, List.append_assoc] at hst
    simp [Builtin.copy_, run_underlying hu, Builtin.lenOf, sizeOf, typeInfo, hq, hi, hm, hf, hst, splice, Result.andThen]
/-- a row with one part more in it -/
theorem splice_ins (A B R : List Value) (X : List Value) (k : Nat) (hk : X.length = k) (hR : k ≤ R.length) :
    splice (splice (A ++ B ++ R) (A.length + k) B) A.length X = A ++ X ++ B ++ R.drop k := by
  subst hk
  simp only [splice]
  have e1 : (A ++ B ++ R).length = A.length + B.length + R.length := by simp [Nat.add_assoc]
  have e2 : ((A ++ B ++ R).take (A.length + X.length)).length = A.length + X.length := by rw [List.length_take, e1]; omega
  have e3 : (A ++ B ++ R).take A.length = A := by rw [List.append_assoc, List.take_left]
  have e4 : ((A ++ B ++ R).take (A.length + X.length) ++ (B ++ (A ++ B ++ R).drop (A.length + X.length + B.length))).take A.length = A := by
    rw [List.take_append_of_le_length (by omega), List.take_take, Nat.min_eq_left (by omega), e3]
  have e5 : ((A ++ B ++ R).take (A.length + X.length) ++ (B ++ (A ++ B ++ R).drop (A.length + X.length + B.length))).drop (A.length + X.length) = B ++ (A ++ B ++ R).drop (A.length + X.length + B.length) := by
    exact List.drop_left' e2
  have e6 : (A ++ B ++ R).drop (A.length + X.length + B.length) = R.drop X.length := by
    rw [show A.length + X.length + B.length = (A ++ B).length + X.length by simp; omega, ← List.drop_drop, List.drop_left]
  rw [e4, e5, e6]
  simp
theorem splice_new (A T : List Value) (X B : List Value) (k : Nat) (hk : X.length = k) (hT : k + B.length ≤ T.length) :
    splice (splice (A ++ T) A.length X) (A.length + k) B = A ++ X ++ B ++ T.drop (k + B.length) := by
  subst hk
  simp only [splice]
  rw [List.take_left, show (A ++ T).drop (A.length + X.length) = T.drop X.length by rw [← List.drop_drop, List.drop_left]]
  have e1 : (A ++ (X ++ T.drop X.length)).take (A.length + X.length) = A ++ X := by
    rw [← List.append_assoc, show A.length + X.length = (A ++ X).length by simp, List.take_left]
  have e2 : (A ++ (X ++ T.drop X.length)).drop (A.length + X.length + B.length) = T.drop (X.length + B.length) := by
    rw [← List.append_assoc, show A.length + X.length + B.length = (A ++ X).length + B.length by simp, ← List.drop_drop, List.drop_left, List.drop_drop]
  rw [e1, e2]
  simp
end Go.Proofs.YtfljhnalmiibeaaGreat

namespace Go.Proofs.YtfljhnalmiibeaaGreat
set_option maxRecDepth 100000
open Go.RowKit
theorem setRow_of {w : World} {g : Nat} {old : List Value} {t : TypeId} (cs : List Value) (h : w.heap[g]? = some (.cells old.toArray t (0, 0))) : (w.setRow g cs.toArray).heap[g]? = some (.cells cs.toArray t (0, 0)) := setRow_heap w g _ _ t _ h
end Go.Proofs.YtfljhnalmiibeaaGreat

namespace Go.Proofs.YtfljhnalmiibeaaGreat
set_option maxRecDepth 100000
open Go.RowKit
/-- all blocks that there were are as they were -/
def Sees (w W : World) : Prop := w.heap.size ≤ W.heap.size ∧ ∀ k, k < w.heap.size → W.heap[k]? = w.heap[k]?
theorem Sees.cell {w W : World} (h : Sees w W) {p : Addr} (hp : p.block < w.heap.size) : W.cell? p = w.cell? p := by simp only [World.cell?, h.2 p.block hp]
theorem sees_below {w W : World} (h : Below w.heap.size w W) : Sees w W := ⟨h.size, h.block⟩
theorem Sees.trans {a b c : World} (h : Sees a b) (k : Sees b c) : Sees a c := ⟨Nat.le_trans h.1 k.1, fun i hi => (k.2 i (Nat.lt_of_lt_of_le hi h.1)).trans (h.2 i hi)⟩
/-- all blocks that there were are as they were, but for some in the middle -/
structure Agree (lo hi : Nat) (w W : World) : Prop where
  size : w.heap.size ≤ W.heap.size
  same : ∀ k, k < w.heap.size → (k < lo ∨ hi ≤ k) → W.heap[k]? = w.heap[k]?
theorem Agree.refl (lo hi : Nat) (w : World) : Agree lo hi w w := ⟨Nat.le_refl _, fun _ _ _ => rfl⟩
theorem Agree.of {lo hi : Nat} {w W : World} (h : Sees w W) : Agree lo hi w W := ⟨h.1, fun k hk _ => h.2 k hk⟩
theorem Agree.below {lo hi : Nat} {w W : World} (h : Below w.heap.size w W) : Agree lo hi w W := .of (sees_below h)
theorem Agree.trans {lo hi : Nat} {a b c : World} (h : Agree lo hi a b) (k : Agree lo hi b c) : Agree lo hi a c := ⟨Nat.le_trans h.size k.size, fun i hi' hb => (k.same i (Nat.lt_of_lt_of_le hi' h.size) hb).trans (h.same i hi' hb)⟩
theorem Agree.put {lo hi : Nat} {w W : World} (h : Agree lo hi w W) (g j : Nat) (v : Value) (hg : lo ≤ g ∧ g < hi) : Agree lo hi w (W.setCell ⟨g, j, none⟩ v) := by
  refine ⟨by rw [World.size_setCell]; exact h.size, fun k hk hb => ?_⟩
  rw [← h.same k hk hb]
  show (W.heap.modify g _)[k]? = _
  rw [Array.getElem?_modify, if_neg (by omega)]
theorem Agree.mono {lo hi lo' hi' : Nat} {w W : World} (h : Agree lo' hi' w W) (h1 : lo ≤ lo') (h2 : hi' ≤ hi) : Agree lo hi w W := ⟨h.size, fun k hk hb => h.same k hk (by omega)⟩
/-- what lay there at first -/
theorem Agree.sees {hi : Nat} {w0 w W : World} (h : Agree w0.heap.size hi w W) (h0 : Sees w0 w) : Sees w0 W := ⟨Nat.le_trans h0.1 h.size, fun k hk => (h.same k (Nat.lt_of_lt_of_le hk h0.1) (.inl hk)).trans (h0.2 k hk)⟩
theorem rdg_agree {α : Type} {enc : α → List Value} {sz lo hi : Nat} {w W : World} {A : Option Addr} {n c : Nat} {l : List α} (h : RdG enc sz w A n c l) (hb : 0 < n → ∀ a, A = some a → a.block < lo ∨ hi ≤ a.block) (ha : Agree lo hi w W) : RdG enc sz W A n c l := by
  obtain ⟨hl, h1, h2, hx⟩ := h
  refine ⟨hl, h1, h2, fun h0 => ?_⟩
  obtain ⟨b, o, rfl, hb', hc⟩ := hx h0
  refine ⟨b, o, rfl, Nat.lt_of_lt_of_le hb' ha.size, fun j hj i v hv => ?_⟩
  have := hc j hj i v hv
  simp only [World.cell?, ha.same b hb' (hb h0 _ rfl)] at this ⊢
  exact this
section
variable {α β : Type}
/-- a row of x's of which each stands for a y -/
def RdR (enc : α → List Value) (sz : Nat) (R : World → α → β → Prop) (w : World) (A : Option Addr) (n c : Nat) (l : List β) : Prop :=
  ∃ L : List α, RdG enc sz w A n c L ∧ L.length = l.length ∧ ∀ (j : Nat) (x : α) (y : β), L[j]? = some x → l[j]? = some y → R w x y
variable {enc : α → List Value} {sz : Nat} {R : World → α → β → Prop} {w w' : World} {A : Option Addr} {n c : Nat} {l : List β}
/-- what stands for something stands for it behind, too -/
def KeepsR (R : World → α → β → Prop) : Prop := ∀ w w' x y, R w x y → Sees w w' → R w' x y
theorem RdR.sees (hR : KeepsR R) (h : RdR enc sz R w A n c l) (b : Sees w w') : RdR enc sz R w' A n c l := by
  obtain ⟨L, h1, h2, h3⟩ := h
  exact ⟨L, h1.keep b.1 (fun p hp => b.cell hp), h2, fun j x y hx hy => hR _ _ _ _ (h3 j x y hx hy) b⟩
theorem RdR.below (hR : KeepsR R) (h : RdR enc sz R w A n c l) (b : Below w.heap.size w w') : RdR enc sz R w' A n c l := h.sees hR (sees_below b)
theorem RdR.len (h : RdR enc sz R w A n c l) : l.length = n := by obtain ⟨L, h1, h2, _⟩ := h; rw [← h2, h1.len]
theorem RdR.le (h : RdR enc sz R w A n c l) : n ≤ 9223372036854775807 := by obtain ⟨L, h1, _⟩ := h; exact h1.le
theorem RdR.cap (h : RdR enc sz R w A n c l) : n ≤ c := by obtain ⟨L, h1, _⟩ := h; exact h1.cap
theorem RdR.nil_ (w : World) : RdR enc sz R w none 0 0 ([] : List β) := ⟨[], RdG.nil_ w, rfl, fun j x y h => by simp at h⟩
theorem RdR.empty_ (w : World) (A : Option Addr) {c : Nat} (hc : c ≤ maxLen) : RdR enc sz R w A 0 c ([] : List β) := ⟨[], RdG.empty_ w A hc, rfl, fun j x y h => by simp at h⟩
theorem RdR.at_ (h : RdR enc sz R w A n c l) {k : Nat} (hk : k < n) : ∃ b o x y, A = some ⟨b, o, none⟩ ∧ b < w.heap.size ∧ l[k]? = some y ∧ R w x y ∧ ∀ i v, (enc x)[i]? = some v → w.cell? ⟨b, o + k * sz + i, none⟩ = some v := by
  have hl := h.len
  obtain ⟨L, h1, h2, h3⟩ := h
  obtain ⟨b, o, x, rfl, hb, hx, hc⟩ := h1.at_ hk
  have hk2 : k < l.length := by omega
  exact ⟨b, o, x, l[k], rfl, hb, List.getElem?_eq_getElem hk2, h3 k x _ hx (List.getElem?_eq_getElem hk2), hc⟩
theorem RdR.upto (h : RdR enc sz R w A n c l) {k m : Nat} (hk : k ≤ n) (hm : k ≤ m) (hmc : m ≤ c) : RdR enc sz R w A k m (l.take k) := by
  obtain ⟨L, h1, h2, h3⟩ := h
  refine ⟨L.take k, h1.upto hk hm hmc, by simp only [List.length_take, h2], fun j x y hx hy => ?_⟩
  rw [List.getElem?_take] at hx hy
  split at hx
  · rename_i hj; rw [if_pos hj] at hy; exact h3 j x y hx hy
  · cases hx
def fromG (sz : Nat) (A : Option Addr) (c q : Nat) : Option Addr := if c = q then A else A.map (·.add (q * sz))
theorem rdg_from {α : Type} {enc : α → List Value} {sz : Nat} {w : World} {A : Option Addr} {n c : Nat} {l : List α} (h : RdG enc sz w A n c l) {q : Nat} (hq : q ≤ n) : RdG enc sz w (fromG sz A c q) (n - q) (c - q) (l.drop q) := by
  obtain ⟨hl, h1, h2, hx⟩ := h
  refine ⟨by rw [List.length_drop, hl], by omega, by simp only [maxLen] at *; omega, fun h0 => ?_⟩
  obtain ⟨b, o, rfl, hb, hc⟩ := hx (by omega)
  rw [fromG, if_neg (by omega)]
  refine ⟨b, o + q * sz, ?_, hb, fun j hj i v hv => ?_⟩
  · simp only [Option.map_some, Addr.add]
    by_cases h0 : q * sz = 0 <;> simp [h0]
  · rw [List.length_drop] at hj
    have := hc (q + j) (by omega) i v (by rw [List.getElem_drop] at hv; exact hv)
    rw [← this]
    congr 2
    rw [Nat.add_mul]; omega
theorem RdR.from_ (h : RdR enc sz R w A n c l) {q : Nat} (hq : q ≤ n) : RdR enc sz R w (fromG sz A c q) (n - q) (c - q) (l.drop q) := by
  obtain ⟨L, h1, h2, h3⟩ := h
  refine ⟨L.drop q, rdg_from h1 hq, by simp only [List.length_drop, h2], fun j x y hx hy => ?_⟩
  rw [List.getElem?_drop] at hx hy
  exact h3 _ x y hx hy
end
theorem run_uptoG {P : Program} {t : TypeId} {sz : Nat} (ht : P.underlying t = some (.slice (P.elem t))) (hz : ∀ W, (sizeOf (P.elem t)).run P W = .ok sz W) {A : Option Addr} {n c m : Nat} (h : m ≤ c) (W : World) :
    (Instr.slice t (.slice A n c) none (some (.int .i64 m)) none).run P W = .ok (.slice A m c) W := by
  rw [run_slice_h (P := P) (w := W) (t := t) (a := A) (len := n) (cap := c) (ht := ht) (kh := .i64) (h := m) (h0 := by omega) (h2 := by omega), hz]
  have ha : A.map (·.add (0 * sz)) = A := by cases A <;> simp [Addr.add]
  simp only [Result.andThen, sliced, ha, Int.toNat_natCast, Nat.sub_zero, ite_self]
theorem run_fromG {P : Program} {t : TypeId} {sz : Nat} (ht : P.underlying t = some (.slice (P.elem t))) (hz : ∀ W, (sizeOf (P.elem t)).run P W = .ok sz W) {A : Option Addr} {n c q : Nat} (h : q ≤ n) (_ : n ≤ c) (W : World) :
    (Instr.slice t (.slice A n c) (some (.int .i64 q)) none none).run P W = .ok (.slice (fromG sz A c q) (n - q) (c - q)) W := by
  rw [run_slice_l (P := P) (w := W) (t := t) (a := A) (len := n) (cap := c) (ht := ht) (kl := .i64) (l := q) (h0 := by omega) (h1 := by omega), hz]
  simp only [Result.andThen, sliced, Int.toNat_natCast, fromG]
/-- a slice in a row of such -/
structure SlR where
  a : Option Addr
  n : Nat
  c : Nat
def SlR.cells (x : SlR) : List Value := [.slice x.a x.n x.c]
theorem slRlen (x : SlR) : x.cells.length = 1 := rfl
theorem slRone (x : SlR) : ∀ v ∈ x.cells, v.oneCell' = true := by
  intro v hv
  simp only [SlR.cells, List.mem_cons, List.not_mem_nil, or_false] at hv
  subst hv; rfl
/-- a line as it lies -/
structure LnR where
  key : Int
  ca : Option Addr
  cn : Nat
  cc : Nat
  ba : Option Addr
  bn : Nat
  bc : Nat
def LnR.cells (x : LnR) : List Value := [.int .i64 x.key, .slice x.ca x.cn x.cc, .slice x.ba x.bn x.bc]
abbrev LnR.agg (x : LnR) : Value := .agg #[.int .i64 x.key, .slice x.ca x.cn x.cc, .slice x.ba x.bn x.bc]
theorem lnRlen (x : LnR) : x.cells.length = 3 := rfl
theorem lnRone (x : LnR) : ∀ v ∈ x.cells, v.oneCell' = true := by
  intro v hv
  simp only [LnR.cells, List.mem_cons, List.not_mem_nil, or_false] at hv
  rcases hv with rfl | rfl | rfl <;> rfl
theorem c5one (x : C5) : ∀ v ∈ x.cells, v.oneCell' = true := by
  intro v hv
  simp only [C5.cells, List.mem_cons, List.not_mem_nil, or_false] at hv
  rcases hv with rfl | rfl | rfl | rfl | rfl <;> rfl
theorem d2one (x : D2) : ∀ v ∈ x.cells, v.oneCell' = true := by
  intro v hv
  simp only [D2.cells, List.mem_cons, List.not_mem_nil, or_false] at hv
  rcases hv with rfl | rfl <;> rfl
instance inhLnR : Inhabited LnR := ⟨⟨0, none, 0, 0, none, 0, 0⟩⟩
instance inhSlR : Inhabited SlR := ⟨⟨none, 0, 0⟩⟩
def CellR (w : World) (x : C5) (y : CQ) : Prop := x.k = y.k ∧ x.v = y.v ∧ RdP w x.A x.n x.c y.l
theorem cellR_keeps : KeepsR CellR := fun _ _ _ _ h b => ⟨h.1, h.2.1, h.2.2.keep b.1 (fun _ hp => b.cell hp)⟩
abbrev RdCs (w : World) (A : Option Addr) (n c : Nat) (l : List CQ) : Prop := RdR C5.cells 5 CellR w A n c l
def LineR (w : World) (x : LnR) (y : LQ) : Prop := x.key = y.key ∧ RdCs w x.ca x.cn x.cc y.cs ∧ RdD w x.ba x.bn x.bc y.by_
theorem lineR_keeps : KeepsR LineR := fun _ _ _ _ h b => ⟨h.1, h.2.1.sees cellR_keeps b, h.2.2.keep b.1 (fun _ hp => b.cell hp)⟩
theorem LineR.below {w w' : World} {x : LnR} {y : LQ} (h : LineR w x y) (b : Below w.heap.size w w') : LineR w' x y := lineR_keeps _ _ _ _ h (sees_below b)
abbrev RdLs (w : World) (A : Option Addr) (n c : Nat) (l : List LQ) : Prop := RdR LnR.cells 3 LineR w A n c l
def DataR (w : World) (x : SlR) (y : List LQ) : Prop := RdLs w x.a x.n x.c y
theorem dataR_keeps : KeepsR DataR := by
  intro w w' x y h b
  unfold DataR at h ⊢
  exact RdR.sees lineR_keeps h b
abbrev RdB (w : World) (A : Option Addr) (n c : Nat) (l : List (List LQ)) : Prop := RdR SlR.cells 1 DataR w A n c l
abbrev lineBox (x : LnR) : Obj := .cells #[.int .i64 x.key, .slice x.ca x.cn x.cc, .slice x.ba x.bn x.bc] 37
abbrev baseBox (A : Option Addr) (n c : Nat) : Obj := .cells #[.slice A n c] 27
abbrev dotBox (d : D2) : Obj := .cells #[.int .i64 d.d, .int .i64 d.s] 40
abbrev tableBox (A : Option Addr) (n c : Nat) (B : Option Addr) (m d : Nat) (i : Int) : Obj := .cells #[.slice A n c, .slice B m d, .int .i64 i] 83
abbrev tableV (A : Option Addr) (n c : Nat) (B : Option Addr) (m d : Nat) (i : Int) : Value := .agg #[.slice A n c, .slice B m d, .int .i64 i]
theorem line_row {w : World} {g : Nat} {x : LnR} (h : w.heap[g]? = some (lineBox x)) : w.cell? ⟨g, 0, none⟩ = some (.int .i64 x.key) ∧ w.cell? ⟨g, 1, none⟩ = some (.slice x.ca x.cn x.cc) ∧ w.cell? ⟨g, 2, none⟩ = some (.slice x.ba x.bn x.bc) :=
  ⟨cell_row h 0, cell_row h 1, cell_row h 2⟩
theorem base_row {w : World} {g : Nat} {A : Option Addr} {n c : Nat} (h : w.heap[g]? = some (baseBox A n c)) : w.cell? ⟨g, 0, none⟩ = some (.slice A n c) := cell_row h 0
theorem dot_row13 {w : World} {g : Nat} {d : D2} (h : w.heap[g]? = some (dotBox d)) : w.cell? ⟨g, 0, none⟩ = some (.int .i64 d.d) ∧ w.cell? ⟨g, 1, none⟩ = some (.int .i64 d.s) := ⟨cell_row h 0, cell_row h 1⟩
theorem table_row {w : World} {g : Nat} {A : Option Addr} {n c : Nat} {B : Option Addr} {m d : Nat} {i : Int} (h : w.heap[g]? = some (tableBox A n c B m d i)) : w.cell? ⟨g, 0, none⟩ = some (.slice A n c) ∧ w.cell? ⟨g, 1, none⟩ = some (.slice B m d) ∧ w.cell? ⟨g, 2, none⟩ = some (.int .i64 i) :=
  ⟨cell_row h 0, cell_row h 1, cell_row h 2⟩
theorem Tryz.infoCell13 : (Tryz.prog.info? 72).map (fun i => (i.zero, i.size, i.bytes)) = some (some (.agg #[.int .i64 0, .int .i64 0, .int .i64 0, .string ⟨#[]⟩, .slice none 0 0]), 5, 64) := by kernel_rfl
theorem Tryz.infoLine : (Tryz.prog.info? 37).map (fun i => (i.zero, i.size, i.bytes)) = some (some (.agg #[.int .i64 0, .slice none 0 0, .slice none 0 0]), 3, 56) := by kernel_rfl
theorem Tryz.infoData : (Tryz.prog.info? 57).map (fun i => (i.zero, i.size, i.bytes)) = some (some (.agg #[.slice none 0 0]), 1, 24) := by kernel_rfl
/-- a cell of a line, and what it holds -/
theorem RdR.cell13 {w : World} {A : Option Addr} {n c : Nat} {l : List CQ} (h : RdCs w A n c l) {k : Nat} (hk : k < n) :
    ∃ b o x y, A = some ⟨b, o, none⟩ ∧ b < w.heap.size ∧ l[k]? = some y ∧ CellR w x y ∧ ∀ w', Below w.heap.size w w' → w'.cell? ⟨b, o + k * 5, none⟩ = some (.int .i64 x.k) ∧ w'.cell? ⟨b, o + k * 5 + 1, none⟩ = some (.int .i64 x.v.k) ∧ w'.cell? ⟨b, o + k * 5 + 2, none⟩ = some (.int .i64 x.v.n) ∧ w'.cell? ⟨b, o + k * 5 + 3, none⟩ = some (.string x.v.s) ∧ w'.cell? ⟨b, o + k * 5 + 4, none⟩ = some (.slice x.A x.n x.c) := by
  obtain ⟨b, o, x, y, rfl, hb, hx, hr, hc⟩ := h.at_ hk
  exact ⟨b, o, x, y, rfl, hb, hx, hr, fun w' hw => ⟨(hw.cell hb).trans (hc 0 _ rfl), (hw.cell hb).trans (hc 1 _ rfl), (hw.cell hb).trans (hc 2 _ rfl), (hw.cell hb).trans (hc 3 _ rfl), (hw.cell hb).trans (hc 4 _ rfl)⟩⟩
theorem RdR.line13 {w : World} {A : Option Addr} {n c : Nat} {l : List LQ} (h : RdLs w A n c l) {k : Nat} (hk : k < n) :
    ∃ b o x y, A = some ⟨b, o, none⟩ ∧ b < w.heap.size ∧ l[k]? = some y ∧ LineR w x y ∧ ∀ w', Below w.heap.size w w' → w'.cell? ⟨b, o + k * 3, none⟩ = some (.int .i64 x.key) ∧ w'.cell? ⟨b, o + k * 3 + 1, none⟩ = some (.slice x.ca x.cn x.cc) ∧ w'.cell? ⟨b, o + k * 3 + 2, none⟩ = some (.slice x.ba x.bn x.bc) := by
  obtain ⟨b, o, x, y, rfl, hb, hx, hr, hc⟩ := h.at_ hk
  exact ⟨b, o, x, y, rfl, hb, hx, hr, fun w' hw => ⟨(hw.cell hb).trans (hc 0 _ rfl), (hw.cell hb).trans (hc 1 _ rfl), (hw.cell hb).trans (hc 2 _ rfl)⟩⟩
theorem RdR.data13 {w : World} {A : Option Addr} {n c : Nat} {l : List (List LQ)} (h : RdB w A n c l) {k : Nat} (hk : k < n) :
    ∃ (b o : Nat) (x : SlR) (y : List LQ), A = some ⟨b, o, none⟩ ∧ b < w.heap.size ∧ l[k]? = some y ∧ RdLs w x.a x.n x.c y ∧ ∀ w', Below w.heap.size w w' → w'.cell? ⟨b, o + k, none⟩ = some (.slice x.a x.n x.c) := by
  obtain ⟨b, o, x, y, rfl, hb, hx, hr, hc⟩ := h.at_ hk
  refine ⟨b, o, x, y, rfl, hb, hx, hr, fun w' hw => ?_⟩
  have := hc 0 _ rfl
  rw [Nat.mul_one, Nat.add_zero] at this
  exact (hw.cell (p := ⟨b, o + k, none⟩) hb).trans this
end Go.Proofs.YtfljhnalmiibeaaGreat

