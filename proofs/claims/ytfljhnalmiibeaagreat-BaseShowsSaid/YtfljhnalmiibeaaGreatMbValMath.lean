/- Several texts laid together: ValMath, ValPlain, ValEq, RowPlain, SortMath, KMem, MulMem, MulMath. -/
import Derived.WalkKit
import Derived.Lib.Replace
import Derived.Lib.CountLaws
import Derived.Lib.ItoaNum
import Derived.Lib.AtoiAll
import Derived.Test.YtfljhnalmiibeaaGreatRows
import Derived.Test.YtfljhnalmiibeaaGreatMbMem
import Derived.Sort.Walk0
import Derived.BigQuiet
import Derived.Deep.RegionWith
import Derived.Outline
import Derived.Deep.DeepCutAuto
import Derived.Deep.CutBlock
import Derived.Test.YtfljhnalmiibeaaGreatMbStruct
import Derived.Deep.RegionHeld3
import Derived.Deep.QuietTactic
import Derived.BigRegion
import Derived.IntWalk
import Derived.Shelf.Abstract
import Derived.Shelf.SlSortCmp.KitK
import Derived.Test.YtfljhnalmiibeaaGreatMbVecDot
namespace Go.Proofs.YtfljhnalmiibeaaGreat
set_option maxRecDepth 100000
/-! ### numerals -/
/-! ### values -/
/-- may a value be: its kind, its number, how many bytes its text has -/
def rightZ (k n : Int) (m : Nat) : Bool := (k == 0 && n == 0 && m == 0) || (k == 1 && decide (-1099511627776 ≤ n) && decide (n ≤ 1099511627776) && m == 0) || (k == 2 && n == 0 && decide (m ≤ 200))
/-! ### what the document's answer reads -/
end Go.Proofs.YtfljhnalmiibeaaGreat

namespace Go.Proofs.YtfljhnalmiibeaaGreat
set_option maxRecDepth 100000
open Go.RowKit
theorem iem (s : ByteArray) : s.toList.isEmpty = (s.size == 0) := by
  rw [Lib.toList_data]
  cases s with
  | mk a => cases a with | mk l => cases l <;> simp [ByteArray.size]
theorem size_zero {s : ByteArray} (h : s.size = 0) : s = ByteArray.empty := by
  cases s with
  | mk a => cases a with | mk l => cases l with
    | nil => rfl
    | cons x r => simp [ByteArray.size] at h
/-- is a ahead of b -/
def lessZ (k n : Int) (s : ByteArray) (k' n' : Int) (s' : ByteArray) : Bool :=
  decide (k < k') || (decide (k = k') && decide (n < n')) || (decide (k = k') && decide (n = n') && decide (s.data.toList < s'.data.toList))
theorem strLess (s t : ByteArray) : Op.bytesLess s.toList t.toList = decide (s.data.toList < t.data.toList) := by
  rw [bytesLess_eq, Lib.toList_data, Lib.toList_data]
/-- are both one -/
def sameZ (k n : Int) (s : ByteArray) (k' n' : Int) (s' : ByteArray) : Bool := decide (k = k') && decide (n = n') && decide (s = s')
end Go.Proofs.YtfljhnalmiibeaaGreat

namespace Go.Proofs.YtfljhnalmiibeaaGreat
set_option maxRecDepth 100000
open Go.RowKit
theorem toList_ne {s t : ByteArray} (h : ¬ s = t) : ¬ s.toList = t.toList := fun e => h (by
  rw [Lib.toList_data, Lib.toList_data] at e
  exact ByteArray.ext (Array.toList_inj.1 e))
theorem fieldsVal : (Tryz.prog.fieldsOf 68).toList = [{ name := "Kind", type := 3, offset := 0, embedded := false, tag := "", pkgPath := "", byteOffset := 0 }, { name := "N", type := 3, offset := 1, embedded := false, tag := "", pkgPath := "", byteOffset := 8 },
    { name := "S", type := 9, offset := 2, embedded := false, tag := "", pkgPath := "", byteOffset := 16 }] := by kernel_rfl
theorem run_equalIn_val (k n k' n' : Int) (s s' : ByteArray) (W : World) :
    (Op.equalIn 10000 68 (.agg #[.int .i64 k, .int .i64 n, .string s]) (.agg #[.int .i64 k', .int .i64 n', .string s'])).run Tryz.prog W = .ok (sameZ k n s k' n' s') W := by
  have ht : Tryz.prog.underlying 68 = some (.struct (Tryz.prog.fieldsOf 68)) := by kernel_rfl
  have hp : Tryz.prog.stoodInHeld 68 = false := by kernel_rfl
  have p0 : ∀ a b c : Value, (part 3 #[a, b, c] 0).run Tryz.prog W = .ok a W := fun _ _ _ => rfl
  have p1 : ∀ a b c : Value, (part 3 #[a, b, c] 1).run Tryz.prog W = .ok b W := fun _ _ _ => rfl
  have p2 : ∀ a b c : Value, (part 9 #[a, b, c] 2).run Tryz.prog W = .ok c W := fun _ _ _ => rfl
  have q0 : ∀ a b : Int, (Op.equalIn 9999 3 (.int .i64 a) (.int .i64 b)).run Tryz.prog W = .ok (a == b) W := fun a b => run_equalIn_int W 9998 _ _ _ a b Tryz.underlying3
  have q1 : ∀ a b : ByteArray, (Op.equalIn 9999 9 (.string a) (.string b)).run Tryz.prog W = .ok (a.toList == b.toList) W := fun a b => run_equalIn_string W 9998 _ a b Tryz.underlying9
  rw [show (10000 : Nat) = 9999 + 1 from rfl, run_equalIn_struct W 9999 _ _ _ ht hp, fieldsVal]
  generalize hP : Tryz.prog = P at p0 p1 p2 q0 q1 ⊢
  simp only [Op.eqFields]
  rw [if_pos (by decide), if_pos (by decide), if_pos (by decide)]
  simp only [Sem.run_bind, p0, q0, Result.andThen]
  rcases Decidable.em (k = k') with rfl | hk <;> rcases Decidable.em (n = n') with rfl | hn <;> rcases Decidable.em (s = s') with rfl | hs
  all_goals try have hs3 := toList_ne hs
  all_goals simp [sameZ, *, Sem.run_bind, Result.andThen]
end Go.Proofs.YtfljhnalmiibeaaGreat

namespace Go.Proofs.YtfljhnalmiibeaaGreat
set_option maxRecDepth 100000
open Go.RowKit
abbrev V3.right (v : V3) : Bool := rightZ v.k v.n v.s.size
end Go.Proofs.YtfljhnalmiibeaaGreat

namespace Go.Proofs.YtfljhnalmiibeaaGreat.Srt
variable {α : Type}
/-- what an order must bear: of a strict weak order -/
structure Weak (lt : α → α → Bool) : Prop where
  irr : ∀ a, lt a a = false
  trans : ∀ a b c, lt a b = true → lt b c = true → lt a c = true
  neg : ∀ a b c, lt a b = false → lt b c = false → lt a c = false
theorem Weak.asym {lt : α → α → Bool} (h : Weak lt) {a b : α} (hab : lt a b = true) : lt b a = false := by
  cases hb : lt b a with
  | false => rfl
  | true => have := h.trans a b a hab hb; rw [h.irr] at this; exact this.symm
/-- two lists, one behind the other, of the second what is ahead of the first's is put ahead -/
def merge (lt : α → α → Bool) : List α → List α → List α
  | [], v => v
  | u, [] => u
  | x :: u, y :: v => if lt y x then y :: merge lt (x :: u) v else x :: merge lt u (y :: v)
termination_by u v => u.length + v.length
def isort (lt : α → α → Bool) (l : List α) : List α := l.foldl (fun a x => merge lt a [x]) []
variable {lt : α → α → Bool}
@[simp] theorem merge_nil_left (v : List α) : merge lt [] v = v := by rw [merge]
@[simp] theorem merge_nil_right (u : List α) : merge lt u [] = u := by cases u <;> simp [merge]
theorem merge_cons (x y : α) (u v : List α) : merge lt (x :: u) (y :: v) = if lt y x then y :: merge lt (x :: u) v else x :: merge lt u (y :: v) := by
  rw [merge]
theorem merge_perm : ∀ (u v : List α), (merge lt u v).Perm (u ++ v)
  | [], v => by simp
  | u, [] => by simp
  | x :: u, y :: v => by
    rw [merge_cons]
    split
    · refine ((merge_perm (x :: u) v).cons y).trans ?_
      exact (List.perm_middle (l₁ := x :: u) (l₂ := v) (a := y)).symm
    · exact (merge_perm u (y :: v)).cons x
termination_by u v => u.length + v.length
theorem merge_len (u v : List α) : (merge lt u v).length = u.length + v.length := by
  rw [(merge_perm u v).length_eq, List.length_append]
/-- the i-th part of s, sorted for itself -/
def part (lt : α → α → Bool) (s : Nat) (l : List α) (i : Nat) : List α := isort lt ((l.drop (i * s)).take s)
/-- m parts of s from the i-th one on, each sorted for itself -/
def parts (lt : α → α → Bool) (s : Nat) (l : List α) (i : Nat) : Nat → List α
  | 0 => []
  | m + 1 => part lt s l i ++ parts lt s l (i + 1) m
end Go.Proofs.YtfljhnalmiibeaaGreat.Srt

namespace Go.Proofs.YtfljhnalmiibeaaGreat
set_option maxRecDepth 100000
open Go.RowKit Go.Sort
variable {α : Type}
/-- draws, and new blocks behind -/
def Grown (w w' : World) : Prop := ∃ n os, w' = grow (w.drewN n) os
theorem Grown.refl (w : World) : Grown w w := ⟨0, #[], by rw [grow_empty]; rfl⟩
theorem Grown.drewN {a w : World} (h : Grown a w) (k : Nat) : Grown a (w.drewN k) := by
  obtain ⟨n, os, rfl⟩ := h
  exact ⟨n + k, os, by show grow ((a.drewN n).drewN k) os = _; rw [World.drewN_drewN]⟩
theorem Grown.drew {a w : World} (h : Grown a w) : Grown a w.drew := h.drewN 1
theorem Grown.alloc {a w : World} (h : Grown a w) (o : Obj) : Grown a (w.alloc o) := by
  obtain ⟨n, os, rfl⟩ := h
  exact ⟨n, os ++ #[o], by rw [alloc_eq_grow, grow_grow]⟩
theorem Grown.grow {a w : World} (h : Grown a w) (os' : Array Obj) : Grown a (Sort.grow w os') := by
  obtain ⟨n, os, rfl⟩ := h
  exact ⟨n, os ++ os', by rw [grow_grow]⟩
theorem Grown.trans {a b c : World} (h : Grown a b) (k : Grown b c) : Grown a c := by
  obtain ⟨n, os, rfl⟩ := k
  exact (h.drewN n).grow os
theorem Grown.below {a w : World} (h : Grown a w) : Below a.heap.size a w := by
  obtain ⟨n, os, rfl⟩ := h
  refine ⟨rfl, rfl, rfl, ?_, fun k hk => ?_⟩
  · rw [size_grow]; exact Nat.le_add_right _ _
  · exact heap_grow_old _ _ hk
/-- as the walk of a drawn region asks for it -/
theorem Grown.of {P : Program} {f : FuncId} {args : Array Value} {w : World} {v : Value} {n : Nat} {os : Array Obj} (h : Calls P f args (Sort.grow (w.drewN n) os) fun e w' => e = .returned v ∧ Grown (Sort.grow (w.drewN n) os) w') :
    Calls P f args (Sort.grow (w.drewN n) os) fun e w' => e = .returned v ∧ ∃ q os', w' = Sort.grow ((Sort.grow (w.drewN n) os).drewN q) os' := h
/-- what is known of the elements' cells -/
structure EncK (enc : α → List Value) (k : Nat) : Prop where
  len : ∀ x, (enc x).length = k
  one : ∀ x, ∀ v ∈ enc x, v.oneCell' = true
section
variable {enc : α → List Value} {k : Nat} {w0 : World} {blk off : Nat} {d : List α} {W W' : World}
end
end Go.Proofs.YtfljhnalmiibeaaGreat

namespace Go.Proofs.YtfljhnalmiibeaaGreat
set_option maxRecDepth 100000
open Go.RowKit
/-- a part of a cell -/
structure P11 where
  v : V3
  d : D2
  i : Int
  t : Int
  a : D2
  j : Int
  g : Bool
def P11.cells (x : P11) : List Value := [.int .i64 x.v.k, .int .i64 x.v.n, .string x.v.s, .int .i64 x.d.d, .int .i64 x.d.s, .int .i64 x.i, .int .i64 x.t, .int .i64 x.a.d, .int .i64 x.a.s, .int .i64 x.j, .bool x.g]
abbrev P11.agg (x : P11) : Value := .agg #[.int .i64 x.v.k, .int .i64 x.v.n, .string x.v.s, .int .i64 x.d.d, .int .i64 x.d.s, .int .i64 x.i, .int .i64 x.t, .int .i64 x.a.d, .int .i64 x.a.s, .int .i64 x.j, .bool x.g]
theorem p11len (x : P11) : x.cells.length = 11 := rfl
theorem p11one (x : P11) : ∀ v ∈ x.cells, v.oneCell' = true := by
  intro v hv
  simp only [P11.cells, List.mem_cons, List.not_mem_nil, or_false] at hv
  rcases hv with rfl | rfl | rfl | rfl | rfl | rfl | rfl | rfl | rfl | rfl | rfl <;> rfl
theorem encP : EncK P11.cells 11 := ⟨p11len, p11one⟩
abbrev RdP (w : World) (A : Option Addr) (n c : Nat) (l : List P11) : Prop := RdG P11.cells 11 w A n c l
theorem RdG.part {w : World} {A : Option Addr} {n c : Nat} {l : List P11} (h : RdP w A n c l) {k : Nat} (hk : k < n) :
    ∃ b o x, A = some ⟨b, o, none⟩ ∧ b < w.heap.size ∧ l[k]? = some x ∧ ∀ w', Below w.heap.size w w' → w'.cell? ⟨b, o + k * 11, none⟩ = some (.int .i64 x.v.k) ∧ w'.cell? ⟨b, o + k * 11 + 1, none⟩ = some (.int .i64 x.v.n) ∧ w'.cell? ⟨b, o + k * 11 + 2, none⟩ = some (.string x.v.s)
      ∧ w'.cell? ⟨b, o + k * 11 + 3, none⟩ = some (.int .i64 x.d.d) ∧ w'.cell? ⟨b, o + k * 11 + 4, none⟩ = some (.int .i64 x.d.s) ∧ w'.cell? ⟨b, o + k * 11 + 5, none⟩ = some (.int .i64 x.i) ∧ w'.cell? ⟨b, o + k * 11 + 6, none⟩ = some (.int .i64 x.t)
      ∧ w'.cell? ⟨b, o + k * 11 + 7, none⟩ = some (.int .i64 x.a.d) ∧ w'.cell? ⟨b, o + k * 11 + 8, none⟩ = some (.int .i64 x.a.s) ∧ w'.cell? ⟨b, o + k * 11 + 9, none⟩ = some (.int .i64 x.j) ∧ w'.cell? ⟨b, o + k * 11 + 10, none⟩ = some (.bool x.g) := by
  obtain ⟨b, o, x, rfl, hb, hx, hc⟩ := h.at_ hk
  refine ⟨b, o, x, rfl, hb, hx, fun w' hw => ?_⟩
  have h2 : ∀ i v, (P11.cells x)[i]? = some v → w'.cell? ⟨b, o + k * 11 + i, none⟩ = some v := fun i v hv => (hw.cell hb).trans (hc i v hv)
  exact ⟨h2 0 _ rfl, h2 1 _ rfl, h2 2 _ rfl, h2 3 _ rfl, h2 4 _ rfl, h2 5 _ rfl, h2 6 _ rfl, h2 7 _ rfl, h2 8 _ rfl, h2 9 _ rfl, h2 10 _ rfl⟩
abbrev partCells (x : P11) : Obj := .cells #[.int .i64 x.v.k, .int .i64 x.v.n, .string x.v.s, .int .i64 x.d.d, .int .i64 x.d.s, .int .i64 x.i, .int .i64 x.t, .int .i64 x.a.d, .int .i64 x.a.s, .int .i64 x.j, .bool x.g] 105
theorem Tryz.infoPart : (Tryz.prog.info? 105).map (fun i => (i.zero, i.size, i.bytes)) = some (some (.agg #[.int .i64 0, .int .i64 0, .string ⟨#[]⟩, .int .i64 0, .int .i64 0, .int .i64 0, .int .i64 0, .int .i64 0, .int .i64 0, .int .i64 0, .bool false]), 11, 96) := by kernel_rfl
/-- a part more, behind a row of the call's own: it lies in a block of its own first -/
theorem wpList_pushP {w W0 : World} {ops : Array Oper} {rest : List Oper} {o : Oper} {a : Act} {Q : Exit → Act → World → Prop} (hgd : o.guard = none) (s x : Operand)
    (ho : o.op = .call { callee := .builtin .append, args := #[s, x], argTypes := #[70, 70] })
    (base : Nat) (v : Value) (n : Nat) (l : List P11) (u : P11) (g : Nat) (hg : w.heap.size = g) (hx : a.eval x = .slice (some ⟨g, 0, none⟩) 1 1)
    (hs : a.eval s = v) (hown : w.ownsRow base 105 11 v n (l.flatMap P11.cells)) (hn : n < 4294967296)
    (hbel : Below base W0 w) (hbase : base ≤ w.heap.size)
    (h : ∀ v' w', w'.ownsRow base 105 11 v' (n + 1) ((l ++ [u]).flatMap P11.cells) → Below base W0 w' → base ≤ w'.heap.size → wpList Tryz.prog ops Q rest (a.put o.dst v') w') :
    wpList Tryz.prog ops Q (o :: rest) a (w.alloc (partCells u)) := by
  subst hg
  obtain ⟨i0, hi0, hz0, hz1, hz2⟩ := info_parts Tryz.infoPart
  refine wpList_append_own _ hgd s x 70 ho base 105 i0 _ 11 96 Tryz.underlying70 hi0 hz0 hz1 hz2 rfl (by omega) v n (l.flatMap P11.cells) hs (hown.alloc _) ⟨w.heap.size, 0, none⟩ 1 1 u.cells hx rfl ?_
    (p11one u) (by simp only [maxLen]; omega) (by omega) (by simp; omega) ?_
  · intro j y hj
    rw [Addr.add_lit, Nat.zero_add, cell_row (heap_alloc_new w _)]
    simpa [P11.cells] using hj
  intro v' w' hown' hgrow _
  refine h v' w' ?_ ?_ (by have := hgrow.size; simp at this; omega)
  · rw [List.flatMap_append]
    simpa using hown'
  · exact (hbel.alloc hbase _).grown hgrow (by simp; omega) (fun k hk => (hown.lt k hk).1)
/-- a part in a block of its own: its cells -/
theorem part_row {w : World} {g : Nat} {x : P11} (h : w.heap[g]? = some (partCells x)) : w.cell? ⟨g, 0, none⟩ = some (.int .i64 x.v.k) ∧ w.cell? ⟨g, 1, none⟩ = some (.int .i64 x.v.n) ∧ w.cell? ⟨g, 2, none⟩ = some (.string x.v.s) ∧ w.cell? ⟨g, 3, none⟩ = some (.int .i64 x.d.d) ∧ w.cell? ⟨g, 4, none⟩ = some (.int .i64 x.d.s) ∧ w.cell? ⟨g, 5, none⟩ = some (.int .i64 x.i) ∧ w.cell? ⟨g, 6, none⟩ = some (.int .i64 x.t) ∧ w.cell? ⟨g, 7, none⟩ = some (.int .i64 x.a.d) ∧ w.cell? ⟨g, 8, none⟩ = some (.int .i64 x.a.s) ∧ w.cell? ⟨g, 9, none⟩ = some (.int .i64 x.j) ∧ w.cell? ⟨g, 10, none⟩ = some (.bool x.g) := by
  have h2 := cell_row h
  refine ⟨?_, ?_, ?_, ?_, ?_, ?_, ?_, ?_, ?_, ?_, ?_⟩ <;> (rw [h2]; rfl)
end Go.Proofs.YtfljhnalmiibeaaGreat

namespace Go.Proofs.YtfljhnalmiibeaaGreat
set_option maxRecDepth 100000
open Srt
instance : DecidableEq V3 := fun a b =>
  if h : a.k = b.k ∧ a.n = b.n ∧ a.s = b.s then isTrue (by cases a; cases b; obtain ⟨h1, h2, h3⟩ := h; simp only at h1 h2 h3; subst h1 h2 h3; rfl)
  else isFalse (fun e => h (by subst e; exact ⟨rfl, rfl, rfl⟩))
instance : DecidableEq P11 := fun a b =>
  if h : a.v = b.v ∧ a.d = b.d ∧ a.i = b.i ∧ a.t = b.t ∧ a.a = b.a ∧ a.j = b.j ∧ a.g = b.g then isTrue (by cases a; cases b; obtain ⟨h1, h2, h3, h4, h5, h6, h7⟩ := h; simp only at h1 h2 h3 h4 h5 h6 h7; subst h1 h2 h3 h4 h5 h6 h7; rfl)
  else isFalse (fun e => h (by subst e; exact ⟨rfl, rfl, rfl, rfl, rfl, rfl, rfl⟩))
/-- does a stand behind b -/
def aboveD (a b : D2) : Bool := decide (b.d < a.d) || (decide (a.d = b.d) && decide (b.s < a.s))
def sgnI (x y : Int) : Int := if x < y then -1 else if y < x then 1 else 0
def cmpD (a b : D2) : Int := if sgnI a.d b.d = 0 then sgnI a.s b.s else sgnI a.d b.d
theorem aboveD_iff (a b : D2) : aboveD a b = true ↔ b.d < a.d ∨ (a.d = b.d ∧ b.s < a.s) := by simp [aboveD]
theorem aboveD_no (a b : D2) : aboveD a b = false ↔ ¬ (b.d < a.d ∨ (a.d = b.d ∧ b.s < a.s)) := by rw [← aboveD_iff]; simp
theorem cmpD_pos (a b : D2) : 0 < cmpD a b ↔ aboveD a b = true := by
  rw [aboveD_iff]; unfold cmpD sgnI; split <;> (split <;> try split) <;> (try split at *) <;> (try split at *) <;> omega
theorem cmpD_neg (a b : D2) : cmpD a b < 0 ↔ aboveD b a = true := by
  rw [aboveD_iff]; unfold cmpD sgnI; split <;> (split <;> try split) <;> (try split at *) <;> (try split at *) <;> omega
theorem cmpD_lt (a b : D2) : decide (cmpD a b < 0) = aboveD b a := by
  rcases h : aboveD b a with _ | _
  · exact decide_eq_false (fun e => by rw [cmpD_neg, h] at e; cases e)
  · exact decide_eq_true ((cmpD_neg _ _).2 h)
theorem cmpD_gt (a b : D2) : decide (0 < cmpD a b) = aboveD a b := by
  rcases h : aboveD a b with _ | _
  · exact decide_eq_false (fun e => by rw [cmpD_pos, h] at e; cases e)
  · exact decide_eq_true ((cmpD_pos _ _).2 h)
/-- is p ahead of q -/
def ltP7 (p q : P11) : Bool := aboveD q.d p.d
theorem weakP : Weak ltP7 where
  irr a := by rw [ltP7, aboveD_no]; omega
  trans a b c := by rw [ltP7, ltP7, ltP7, aboveD_iff, aboveD_iff, aboveD_iff]; omega
  neg a b c := by rw [ltP7, ltP7, ltP7, aboveD_no, aboveD_no, aboveD_no]; omega
/-- x, ahead of the first one that stands behind it -/
def insP (l : List P11) (x : P11) : List P11 := merge ltP7 l [x]
theorem insP_nil (x : P11) : insP [] x = [x] := merge_nil_left _
theorem insP_cons (p : P11) (l : List P11) (x : P11) : insP (p :: l) x = if aboveD p.d x.d = true then x :: p :: l else p :: insP l x := by
  rw [insP, merge_cons]
  simp only [ltP7, merge_nil_right]
  rfl
/-- at which place -/
def place (l : List P11) (d : D2) : Nat := l.findIdx fun p => aboveD p.d d
theorem place_le (l : List P11) (d : D2) : place l d ≤ l.length := List.findIdx_le_length
theorem insP_place (l : List P11) (x : P11) : insP l x = l.take (place l x.d) ++ x :: l.drop (place l x.d) := by
  induction l with
  | nil => rw [insP_nil]; rfl
  | cons p l ih =>
    rw [insP_cons, place, List.findIdx_cons]
    cases h : aboveD p.d x.d with
    | true => simp
    | false =>
      rw [ih]
      simp [place]
theorem insP_len (l : List P11) (x : P11) : (insP l x).length = l.length + 1 := by rw [insP, merge_len]; rfl
theorem insP_mem (l : List P11) (x y : P11) : y ∈ insP l x ↔ y ∈ l ∨ y = x := by
  rw [insP, (merge_perm l [x]).mem_iff, List.mem_append, List.mem_singleton]
/-- rising -/
def Rise (l : List P11) : Prop := l.Pairwise fun p q => aboveD q.d p.d = true
theorem aboveD_trans {a b c : D2} (h1 : aboveD a b = true) (h2 : aboveD b c = true) : aboveD a c = true := by
  rw [aboveD_iff] at *; omega
theorem aboveD_irr (a : D2) : aboveD a a = false := by rw [aboveD_no]; omega
theorem above_or {a b : D2} (h : a ≠ b) : aboveD a b = true ∨ aboveD b a = true := by
  rw [aboveD_iff, aboveD_iff]
  obtain ⟨a1, a2⟩ := a; obtain ⟨b1, b2⟩ := b
  have : ¬ (a1 = b1 ∧ a2 = b2) := fun e => h (by rw [e.1, e.2])
  simp only
  omega
theorem Rise.filter {l : List P11} (h : Rise l) (p : P11 → Bool) : Rise (l.filter p) := List.Pairwise.filter p h
theorem Rise.ins {l : List P11} (h : Rise l) {x : P11} (hx : ∀ p ∈ l, p.d ≠ x.d) : Rise (insP l x) := by
  induction l with
  | nil => rw [insP_nil]; exact List.pairwise_singleton _ _
  | cons p l ih =>
    have h2 := List.pairwise_cons.1 h
    rw [insP_cons]
    split
    · rename_i ha
      refine List.pairwise_cons.2 ⟨fun q hq => ?_, h⟩
      rcases List.mem_cons.1 hq with rfl | hq
      · exact ha
      · exact aboveD_trans (h2.1 q hq) ha
    · rename_i ha
      refine List.pairwise_cons.2 ⟨fun q hq => ?_, ih h2.2 (fun q hq => hx q (List.mem_cons_of_mem _ hq))⟩
      rcases (insP_mem _ _ _).1 hq with hq | rfl
      · exact h2.1 q hq
      · rcases above_or (hx p (List.mem_cons_self ..)) with h3 | h3
        · exact absurd h3 ha
        · exact h3
/-- rising rows of the same parts are the same -/
theorem Rise.eq : ∀ {a b : List P11}, Rise a → Rise b → (∀ x, x ∈ a ↔ x ∈ b) → a = b
  | [], [], _, _, _ => rfl
  | [], y :: b, _, _, h => absurd ((h y).2 (List.mem_cons_self ..)) (by simp)
  | x :: a, [], _, _, h => absurd ((h x).1 (List.mem_cons_self ..)) (by simp)
  | x :: a, y :: b, ha, hb, h => by
    have ha2 := List.pairwise_cons.1 ha
    have hb2 := List.pairwise_cons.1 hb
    have hxy : x = y := by
      rcases List.mem_cons.1 ((h x).1 (List.mem_cons_self ..)) with e | e
      · exact e
      · rcases List.mem_cons.1 ((h y).2 (List.mem_cons_self ..)) with e2 | e2
        · exact e2.symm
        · have h1 := hb2.1 x e
          have h2 := ha2.1 y e2
          have := aboveD_trans h1 h2
          rw [aboveD_irr] at this
          cases this
    subst hxy
    rw [Rise.eq ha2.2 hb2.2 fun z => ?_]
    constructor
    · intro hz
      rcases List.mem_cons.1 ((h z).1 (List.mem_cons_of_mem _ hz)) with e | e
      · subst e; have := ha2.1 _ hz; rw [aboveD_irr] at this; cases this
      · exact e
    · intro hz
      rcases List.mem_cons.1 ((h z).2 (List.mem_cons_of_mem _ hz)) with e | e
      · subst e; have := hb2.1 _ hz; rw [aboveD_irr] at this; cases this
      · exact e
/-- a part of a value and a dot alone -/
def part0 (v : V3) (d : D2) : P11 := ⟨v, d, 0, 0, ⟨0, 0⟩, 0, false⟩
abbrev knowsV (kn : List Int) (d : D2) : Bool := hasV kn d.d d.s
/-- what stays at a write -/
def keptW (d : D2) (kn : List Int) (p : P11) : Bool := !decide (p.d = d) && !knowsV kn p.d
def writeL (l : List P11) (v : V3) (d : D2) (kn : List Int) : List P11 := insP (l.filter (keptW d kn)) (part0 v d)
/-- a dot is among parts -/
def dotIn (l : List P11) (d : D2) : Bool := l.any fun p => decide (p.d = d)
theorem dotIn_iff (l : List P11) (d : D2) : dotIn l d = true ↔ ∃ p ∈ l, p.d = d := by simp [dotIn]
def joinA (b : List P11) (kb : List Int) (p : P11) : Bool := dotIn b p.d || !knowsV kb p.d
def joinB (a : List P11) (ka : List Int) (p : P11) : Bool := !dotIn a p.d && !knowsV ka p.d
def joinL (a b : List P11) (ka kb : List Int) : List P11 := isort ltP7 (a.filter (joinA b kb) ++ b.filter (joinB a ka))
theorem joinL_steps (a b : List P11) (ka kb : List Int) : joinL a b ka kb = (b.filter (joinB a ka)).foldl insP ((a.filter (joinA b kb)).foldl insP []) := by
  rw [joinL, isort, List.foldl_append]; rfl
/-- may a part stand in a cell -/
def okP (p : P11) : Bool := decide (1 ≤ p.d.d) && decide (p.d.d ≤ 64) && decide (1 ≤ p.d.s) && decide (p.d.s ≤ 1048576) && p.v.right && decide (p = part0 p.v p.d)
/-- all parts may stand in a cell -/
def RightL (l : List P11) : Prop := (∀ p ∈ l, okP p = true) ∧ Rise l
noncomputable instance (l : List P11) : Decidable (RightL l) := Classical.propDecidable _
theorem RightL.take {l : List P11} (h : RightL l) (k : Nat) : RightL (l.take k) := ⟨fun p hp => h.1 p (List.mem_of_mem_take hp), List.Pairwise.sublist (List.take_sublist k l) h.2⟩
/-- the next one -/
theorem right_step {l : List P11} {k : Nat} {x : P11} (hx : l[k]? = some x) (h : RightL (l.take k)) (ho : okP x = true) (hr : ∀ y, 0 < k → l[k - 1]? = some y → aboveD x.d y.d = true) : RightL (l.take (k + 1)) := by
  have he : l.take (k + 1) = l.take k ++ [x] := by rw [List.take_add_one, hx]; rfl
  rw [he]
  refine ⟨fun p hp => ?_, ?_⟩
  · rcases List.mem_append.1 hp with hp | hp
    · exact h.1 p hp
    · rw [List.mem_singleton] at hp; subst hp; exact ho
  · refine List.pairwise_append.2 ⟨h.2, List.pairwise_singleton _ _, fun p hp q hq => ?_⟩
    rw [List.mem_singleton] at hq
    subst hq
    rcases Nat.eq_zero_or_pos k with h0 | h0
    · subst h0; simp at hp
    · have hlt : k - 1 < l.length := by have := (List.getElem?_eq_some_iff.1 hx).1; omega
      have hy := List.getElem?_eq_getElem hlt
      have ha := hr _ h0 hy
      have he2 : l.take k = l.take (k - 1) ++ [l[k - 1]] := by
        conv => lhs; rw [show k = k - 1 + 1 by omega]
        rw [List.take_add_one, hy]; rfl
      rw [he2] at hp
      rcases List.mem_append.1 hp with hp | hp
      · have h2 := h.2
        rw [he2] at h2
        exact aboveD_trans ha ((List.pairwise_append.1 h2).2.2 p hp _ (by simp))
      · rw [List.mem_singleton] at hp; subst hp; exact ha
theorem right_bad {l : List P11} {k : Nat} {x : P11} (hx : l[k]? = some x) (ho : okP x = false) : ¬ RightL l := fun h => by
  have := h.1 x (List.mem_of_getElem? hx); rw [ho] at this; cases this
theorem right_low {l : List P11} {k : Nat} {x y : P11} (hx : l[k + 1]? = some x) (hy : l[k]? = some y) (hr : aboveD x.d y.d = false) : ¬ RightL l := fun h => by
  have h2 := List.pairwise_iff_getElem.1 h.2 k (k + 1) (List.getElem?_eq_some_iff.1 hy).1 (List.getElem?_eq_some_iff.1 hx).1 (by omega)
  rw [(List.getElem?_eq_some_iff.1 hx).2, (List.getElem?_eq_some_iff.1 hy).2, hr] at h2
  cases h2
def zeroV : V3 := ⟨0, 0, ByteArray.empty⟩
noncomputable def rightC (k : Int) (v : V3) (l : List P11) : Bool := decide (k = 1) && decide (v = zeroV) && decide (RightL l)
end Go.Proofs.YtfljhnalmiibeaaGreat

