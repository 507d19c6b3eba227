/- Layer 12: where expressions lie, and what closures tell. -/
import Derived.Test.YtkpkkkmokgmhfaaExpMath
import Derived.Test.YtkpkkkmokgmhfaaQuietB
import Derived.Test.YtkpkkkmokgmhfaaMapK
import Derived.Test.YtkpkkkmokgmhfaaMap
import Derived.Shelf.Abstract
import Derived.Laws.EntriesVeiled
import Derived.Laws.NewBlocks
namespace Go.Proofs.Ytkpkkkmokgmhfaa
set_option maxRecDepth 100000
open Go.RowKit Go.MapKept

abbrev exprBox (e : E6) : Obj := .cells #[.int .i64 e.k, .int .i64 e.n, .int .i64 e.v.k, .int .i64 e.v.n, .string e.v.s, .slice e.a e.m e.c] 26
abbrev valBox (v : V3) : Obj := .cells #[.int .i64 v.k, .int .i64 v.n, .string v.s] 23
abbrev langV (g1 g2 : Nat) : Value := .agg #[.map (some g1), .map (some g2)]
abbrev langBox (g1 g2 : Nat) : Obj := .cells #[.map (some g1), .map (some g2)] 57
abbrev fnV (g : Nat) : Value := .func (.func g) #[] #[]
theorem expr_row {w : World} {g : Nat} {e : E6} (h : w.heap[g]? = some (exprBox e)) : w.cell? ⟨g, 0, none⟩ = some (.int .i64 e.k) ∧ w.cell? ⟨g, 1, none⟩ = some (.int .i64 e.n) ∧ w.cell? ⟨g, 2, none⟩ = some (.int .i64 e.v.k) ∧ w.cell? ⟨g, 3, none⟩ = some (.int .i64 e.v.n)
    ∧ w.cell? ⟨g, 4, none⟩ = some (.string e.v.s) ∧ w.cell? ⟨g, 5, none⟩ = some (.slice e.a e.m e.c) := by
  have h2 := cell_row h
  refine ⟨?_, ?_, ?_, ?_, ?_, ?_⟩ <;> (rw [h2]; rfl)
theorem valB_row {w : World} {g : Nat} {v : V3} (h : w.heap[g]? = some (valBox v)) : w.cell? ⟨g, 0, none⟩ = some (.int .i64 v.k) ∧ w.cell? ⟨g, 1, none⟩ = some (.int .i64 v.n) ∧ w.cell? ⟨g, 2, none⟩ = some (.string v.s) := by
  have h2 := cell_row h
  refine ⟨?_, ?_, ?_⟩ <;> (rw [h2]; rfl)
theorem lang_row {w : World} {g a b : Nat} (h : w.heap[g]? = some (langBox a b)) : w.cell? ⟨g, 0, none⟩ = some (.map (some a)) ∧ w.cell? ⟨g, 1, none⟩ = some (.map (some b)) := by
  have h2 := cell_row h
  refine ⟨?_, ?_⟩ <;> (rw [h2]; rfl)
theorem old_row {w : World} {g : Nat} {o : Obj} (o' : Obj) (h : w.heap[g]? = some o) : (w.alloc o').heap[g]? = some o := row_below h (below_new (Below.refl _ _) _)
theorem new_row (w : World) (o : Obj) {g : Nat} (h : w.heap.size = g) : (w.alloc o).heap[g]? = some o := by subst h; exact heap_alloc_new _ _

abbrev RdE (w : World) (A : Option Addr) (n c : Nat) (l : List E6) : Prop := RdG E6.cells 6 w A n c l
/-- an expression reads so, all the way down -/
inductive ReadsE (w : World) : E6 → Prop
  | mk {e : E6} : RdE w e.a e.m e.c e.of → (∀ x ∈ e.of, ReadsE w x) → ReadsE w e
theorem ReadsE.row {w : World} {e : E6} (h : ReadsE w e) : RdE w e.a e.m e.c e.of := by cases h; assumption
theorem ReadsE.kid {w : World} {e : E6} (h : ReadsE w e) : ∀ x ∈ e.of, ReadsE w x := by cases h; assumption
theorem ReadsE.len {w : World} {e : E6} (h : ReadsE w e) : e.of.length = e.m := h.row.len
theorem ReadsE.le {w : World} {e : E6} (h : ReadsE w e) : e.m ≤ 9223372036854775807 := h.row.le
theorem ReadsE.keep {w w' : World} {e : E6} (h : ReadsE w e) (b : Below w.heap.size w w') : ReadsE w' e := by
  induction h with
  | mk h1 _ ih => exact .mk (h1.below b) ih
theorem ReadsE.none_ (w : World) (k n : Int) (v : V3) : ReadsE w ⟨k, n, v, none, 0, 0, []⟩ := .mk (RdG.nil_ _) (fun _ h => by cases h)
theorem ReadsE.at_ {w : World} {e : E6} (h : ReadsE w e) {j : Nat} (hj : j < e.m) : ∃ b o x, e.a = some ⟨b, o, none⟩ ∧ b < w.heap.size ∧ e.of[j]? = some x ∧ ReadsE w x ∧ ∀ w', Below w.heap.size w w' → w'.cell? ⟨b, o + j * 6, none⟩ = some (.int .i64 x.k) ∧ w'.cell? ⟨b, o + j * 6 + 1, none⟩ = some (.int .i64 x.n)
    ∧ w'.cell? ⟨b, o + j * 6 + 2, none⟩ = some (.int .i64 x.v.k) ∧ w'.cell? ⟨b, o + j * 6 + 3, none⟩ = some (.int .i64 x.v.n) ∧ w'.cell? ⟨b, o + j * 6 + 4, none⟩ = some (.string x.v.s) ∧ w'.cell? ⟨b, o + j * 6 + 5, none⟩ = some (.slice x.a x.m x.c) := by
  obtain ⟨b, o, x, ha, hb, hx, hc⟩ := h.row.at_ hj
  exact ⟨b, o, x, ha, hb, hx, h.kid x (List.mem_of_getElem? hx), fun w' hw => ⟨(hw.cell hb).trans (hc 0 _ rfl), (hw.cell hb).trans (hc 1 _ rfl), (hw.cell hb).trans (hc 2 _ rfl), (hw.cell hb).trans (hc 3 _ rfl), (hw.cell hb).trans (hc 4 _ rfl), (hw.cell hb).trans (hc 5 _ rfl)⟩⟩

/-- a closure over two kinds tells whether an operator asks for such -/
def TellsAsk (g : Nat) (k : Int) : Prop := ∀ (a b : Int) (W : World), Calls Try.prog g #[.int .i64 a, .int .i64 b] W fun e W' => e = .returned (.bool (gets3 k a b)) ∧ Below W.heap.size W W'
/-- a closure over two values tells what an operator says of them -/
def TellsSay (g : Nat) (cb : Array Value) (k : Int) (w0 : World) : Prop := ∀ W, Below w0.heap.size w0 W → ∀ a b : V3, mayV a = true → mayV b = true → gets3 k a.k b.k = true →
  Calls Try.prog g (#[a.agg, b.agg] ++ cb) W fun e W' => e = .returned (.tuple #[(saysO k a b).1.agg, .int .i64 (saysO k a b).2]) ∧ Below W.heap.size W W'
def EntersF (g : Nat) : Prop := ∀ args w, (callFunc g args).run Try.prog w = .ok (.enter g args) w
structure OpT where
  m : Nat
  ga : Nat
  gs : Nat
  cb : Array Value
abbrev OpT.val (t : OpT) : Value := .agg #[.int .i64 t.m, fnV t.ga, .func (.func t.gs) #[] t.cb]
abbrev zeroOp : Value := .agg #[.int .i64 0, .nilFunc, .nilFunc]
abbrev zeroLeaf : Value := .agg #[.nilFunc, .nilFunc, .nilFunc]
structure OpT.Tells (t : OpT) (k : Int) (w : World) : Prop where
  many : t.m = manyZ k
  ea : EntersF t.ga
  ask : TellsAsk t.ga k
  es : EntersF t.gs
  say : TellsSay t.gs t.cb k w
def leafAt (k : Int) : Option Value := if k = 0 then some (.agg #[fnV 38, fnV 39, fnV 40])
  else if k = 1 then some (.agg #[fnV 41, fnV 42, fnV 43]) else none
def intK (z : Int) : Value := .int .i64 z
/-- the maps of all kinds of expressions -/
structure Lang (w : World) (g1 g2 : Nat) : Prop where
  leaves : ∃ es c, w.heap[g1]? = some (mapO intK es c) ∧ ∀ k : Int, lookE es k = leafAt k
  ops : ∃ es c, w.heap[g2]? = some (mapO intK es c) ∧ (∀ k : Int, 2 ≤ k ∧ k ≤ 10 → ∃ t : OpT, lookE es k = some t.val ∧ t.Tells k w) ∧ ∀ k : Int, ¬ (2 ≤ k ∧ k ≤ 10) → lookE es k = none
theorem OpT.Tells.below {t : OpT} {k : Int} {w w' : World} (h : t.Tells k w) (b : Below w.heap.size w w') : t.Tells k w' :=
  ⟨h.many, h.ea, h.ask, h.es, fun W hW => h.say W (below_then b hW)⟩
theorem Lang.below {w w' : World} {g1 g2 : Nat} (h : Lang w g1 g2) (b : Below w.heap.size w w') : Lang w' g1 g2 := by
  obtain ⟨⟨es, c, h1, h2⟩, es', c', h3, h4, h5⟩ := h
  exact ⟨⟨es, c, row_below h1 b, h2⟩, es', c', row_below h3 b, fun k hk => (h4 k hk).imp fun t ⟨q1, q2⟩ => ⟨q1, q2.below b⟩, h5⟩

/-- maps with number keys -/
theorem findNow_E (a : Int) : ∀ (es : List (EnK Int)) (i : Nat), Instr.findNow (.int .i64) (.int .i64 a) (es.map (entK intK)) i = some (findE es a i)
  | [], _ => rfl
  | e :: r, i => by
    rw [List.map_cons, findE]
    show Instr.findNow (.int .i64) (.int .i64 a) ({ key := .int .i64 e.k, val := e.v, born := e.b } :: r.map (entK intK)) i = _
    rw [findNow_cons]
    split
    · rfl
    · exact findNow_E a r (i + 1)
section
variable {P : Program} {t k e : TypeId} {w : World} {g c : Nat} {es : List (EnK Int)} {z : Value}
theorem run_lookI (ht : P.underlying t = some (.map k e)) (hk : P.underlying k = some (.int .i64)) (hz : ∀ w, (zeroValue e).run P w = .ok z w) (h : w.heap[g]? = some (mapO intK es c)) (a : Int) (r : Option Value) (hr : lookE es a = r) :
    (Instr.lookup t (.map (some g)) (.int .i64 a) false).run P w = .ok (r.getD z) w := by
  subst hr
  have hf := findNow_E a es 0
  rw [← findE_look es a 0]
  have hi : IsKey (.int .i64) (.int .i64 a) := rfl
  have hf2 : Instr.findNow (.int .i64) (.int .i64 a) (es.map (entK intK)).toArray.toList 0 = some (findE es a 0) := hf
  cases hr : findE es a 0 with
  | none => rw [hr] at hf2; simp [Instr.lookup, run_underlying ht, Go.MapKept.run_getObj_map h, run_checkKey hk hi, run_findKey hk hf2, hz, Result.andThen]
  | some r => rw [hr] at hf2; obtain ⟨i, v⟩ := r; simp [Instr.lookup, run_underlying ht, Go.MapKept.run_getObj_map h, run_checkKey hk hi, run_findKey hk hf2, Result.andThen]
theorem run_lookOkI (ht : P.underlying t = some (.map k e)) (hk : P.underlying k = some (.int .i64)) (hz : ∀ w, (zeroValue e).run P w = .ok z w) (h : w.heap[g]? = some (mapO intK es c)) (a : Int) (r : Option Value) (hr : lookE es a = r) :
    (Instr.lookup t (.map (some g)) (.int .i64 a) true).run P w = .ok (.tuple #[r.getD z, .bool r.isSome]) w := by
  subst hr
  have hf := findNow_E a es 0
  rw [← findE_look es a 0]
  have hi : IsKey (.int .i64) (.int .i64 a) := rfl
  have hf2 : Instr.findNow (.int .i64) (.int .i64 a) (es.map (entK intK)).toArray.toList 0 = some (findE es a 0) := hf
  cases hr : findE es a 0 with
  | none => rw [hr] at hf2; simp [Instr.lookup, run_underlying ht, Go.MapKept.run_getObj_map h, run_checkKey hk hi, run_findKey hk hf2, hz, Result.andThen]
  | some r => rw [hr] at hf2; obtain ⟨i, v⟩ := r; simp [Instr.lookup, run_underlying ht, Go.MapKept.run_getObj_map h, run_checkKey hk hi, run_findKey hk hf2, Result.andThen]
theorem run_putI (ht : P.underlying t = some (.map k e)) (hk : P.underlying k = some (.int .i64)) (h : w.heap[g]? = some (mapO intK es c)) (a : Int) (v : Value) (hn : lookE es a = none) :
    (Instr.mapUpdate t (.map (some g)) (.int .i64 a) v).run P w = .ok () (putBlock w g (mapO intK (es ++ [⟨a, v, c⟩]) (c + 1))) := by
  have hf2 : Instr.findNow (.int .i64) (.int .i64 a) (es.map (entK intK)).toArray.toList 0 = some (findE es a 0) := findNow_E a es 0
  have hi : IsKey (.int .i64) (.int .i64 a) := rfl
  rw [findE_none.2 hn] at hf2
  have hs := fun o => Go.MapKept.run_setObj_map (P := P) o h
  simp [Instr.mapUpdate, run_underlying ht, Go.MapKept.run_getObj_map h, run_checkKey hk hi, run_findKey hk hf2, hs, Result.andThen, mapO, putBlock, entK, intK]
end
theorem Try.zeroLeaf_ : ∀ w, (zeroValue 67).run Try.prog w = .ok zeroLeaf w := fun w => by kernel_rfl
theorem Try.zeroOp_ : ∀ w, (zeroValue 73).run Try.prog w = .ok zeroOp w := fun w => by kernel_rfl
theorem Try.mapLeaf_ : Try.prog.underlying 54 = some (.map 3 67) := by kernel_rfl
theorem Try.mapOp_ : Try.prog.underlying 55 = some (.map 3 73) := by kernel_rfl
theorem Lang.leaf {w : World} {g1 g2 : Nat} (h : Lang w g1 g2) (k : Int) : ∀ W, Below w.heap.size w W → (Instr.lookup 54 (.map (some g1)) (.int .i64 k) true).run Try.prog W = .ok (.tuple #[(leafAt k).getD zeroLeaf, .bool (leafAt k).isSome]) W := by
  obtain ⟨es, c, h1, h2⟩ := h.leaves
  exact fun W hW => run_lookOkI Try.mapLeaf_ Try.underlying3 Try.zeroLeaf_ (row_below h1 hW) k _ (h2 k)
theorem Lang.op {w : World} {g1 g2 : Nat} (h : Lang w g1 g2) {k : Int} (hk : 2 ≤ k ∧ k ≤ 10) : ∃ t : OpT, t.Tells k w ∧ (∀ W, Below w.heap.size w W → (Instr.lookup 55 (.map (some g2)) (.int .i64 k) true).run Try.prog W = .ok (.tuple #[t.val, .bool true]) W)
    ∧ ∀ W, Below w.heap.size w W → (Instr.lookup 55 (.map (some g2)) (.int .i64 k) false).run Try.prog W = .ok t.val W := by
  obtain ⟨es, c, h1, h2, _⟩ := h.ops
  obtain ⟨t, h3, h4⟩ := h2 k hk
  exact ⟨t, h4, fun W hW => run_lookOkI Try.mapOp_ Try.underlying3 Try.zeroOp_ (row_below h1 hW) k _ h3, fun W hW => run_lookI Try.mapOp_ Try.underlying3 Try.zeroOp_ (row_below h1 hW) k _ h3⟩
theorem Lang.noOp {w : World} {g1 g2 : Nat} (h : Lang w g1 g2) {k : Int} (hk : ¬ (2 ≤ k ∧ k ≤ 10)) : ∀ W, Below w.heap.size w W → (Instr.lookup 55 (.map (some g2)) (.int .i64 k) true).run Try.prog W = .ok (.tuple #[zeroOp, .bool false]) W := by
  obtain ⟨es, c, h1, _, h2⟩ := h.ops
  exact fun W hW => run_lookOkI Try.mapOp_ Try.underlying3 Try.zeroOp_ (row_below h1 hW) k _ (h2 k hk)
end Go.Proofs.Ytkpkkkmokgmhfaa
