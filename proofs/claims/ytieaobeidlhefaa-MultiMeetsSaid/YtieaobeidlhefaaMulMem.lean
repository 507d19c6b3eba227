/- Layer 7: parts of cells: their cells, rows of them; a part more behind a row of the call's own. -/
import Derived.Test.YtieaobeidlhefaaVecDot
import Derived.Test.YtieaobeidlhefaaRowPlain
import Derived.Test.YtieaobeidlhefaaKLay
namespace Go.Proofs.Ytieaobeidlhefaa
set_option maxRecDepth 100000
open Go.RowKit

/-- a part of a cell -/
structure P11 where
  v : V3
  d : D2
  i : Int
  t : Int
  a : D2
  j : Int
  g : Bool
def P11.cells (x : P11) : List Value := [.int .i64 x.v.k, .int .i64 x.v.n, .string x.v.s, .int .i64 x.d.d, .int .i64 x.d.s, .int .i64 x.i, .int .i64 x.t, .int .i64 x.a.d, .int .i64 x.a.s, .int .i64 x.j, .bool x.g]
abbrev P11.agg (x : P11) : Value := .agg #[.int .i64 x.v.k, .int .i64 x.v.n, .string x.v.s, .int .i64 x.d.d, .int .i64 x.d.s, .int .i64 x.i, .int .i64 x.t, .int .i64 x.a.d, .int .i64 x.a.s, .int .i64 x.j, .bool x.g]
theorem p11len (x : P11) : x.cells.length = 11 := rfl
theorem p11one (x : P11) : ∀ v ∈ x.cells, v.oneCell' = true := by
  intro v hv
  simp only [P11.cells, List.mem_cons, List.not_mem_nil, or_false] at hv
  rcases hv with rfl | rfl | rfl | rfl | rfl | rfl | rfl | rfl | rfl | rfl | rfl <;> rfl
theorem encP : EncK P11.cells 11 := ⟨p11len, p11one⟩
abbrev RdP (w : World) (A : Option Addr) (n c : Nat) (l : List P11) : Prop := RdG P11.cells 11 w A n c l

theorem RdG.part {w : World} {A : Option Addr} {n c : Nat} {l : List P11} (h : RdP w A n c l) {k : Nat} (hk : k < n) :
    ∃ b o x, A = some ⟨b, o, none⟩ ∧ b < w.heap.size ∧ l[k]? = some x ∧ ∀ w', Below w.heap.size w w' → w'.cell? ⟨b, o + k * 11, none⟩ = some (.int .i64 x.v.k) ∧ w'.cell? ⟨b, o + k * 11 + 1, none⟩ = some (.int .i64 x.v.n) ∧ w'.cell? ⟨b, o + k * 11 + 2, none⟩ = some (.string x.v.s)
      ∧ w'.cell? ⟨b, o + k * 11 + 3, none⟩ = some (.int .i64 x.d.d) ∧ w'.cell? ⟨b, o + k * 11 + 4, none⟩ = some (.int .i64 x.d.s) ∧ w'.cell? ⟨b, o + k * 11 + 5, none⟩ = some (.int .i64 x.i) ∧ w'.cell? ⟨b, o + k * 11 + 6, none⟩ = some (.int .i64 x.t)
      ∧ w'.cell? ⟨b, o + k * 11 + 7, none⟩ = some (.int .i64 x.a.d) ∧ w'.cell? ⟨b, o + k * 11 + 8, none⟩ = some (.int .i64 x.a.s) ∧ w'.cell? ⟨b, o + k * 11 + 9, none⟩ = some (.int .i64 x.j) ∧ w'.cell? ⟨b, o + k * 11 + 10, none⟩ = some (.bool x.g) := by
  obtain ⟨b, o, x, rfl, hb, hx, hc⟩ := h.at_ hk
  refine ⟨b, o, x, rfl, hb, hx, fun w' hw => ?_⟩
  have h2 : ∀ i v, (P11.cells x)[i]? = some v → w'.cell? ⟨b, o + k * 11 + i, none⟩ = some v := fun i v hv => (hw.cell hb).trans (hc i v hv)
  exact ⟨h2 0 _ rfl, h2 1 _ rfl, h2 2 _ rfl, h2 3 _ rfl, h2 4 _ rfl, h2 5 _ rfl, h2 6 _ rfl, h2 7 _ rfl, h2 8 _ rfl, h2 9 _ rfl, h2 10 _ rfl⟩

abbrev partCells (x : P11) : Obj := .cells #[.int .i64 x.v.k, .int .i64 x.v.n, .string x.v.s, .int .i64 x.d.d, .int .i64 x.d.s, .int .i64 x.i, .int .i64 x.t, .int .i64 x.a.d, .int .i64 x.a.s, .int .i64 x.j, .bool x.g] 32

theorem Try.infoPart : (Try.prog.info? 32).map (fun i => (i.zero, i.size, i.bytes)) = some (some (.agg #[.int .i64 0, .int .i64 0, .string ⟨#[]⟩, .int .i64 0, .int .i64 0, .int .i64 0, .int .i64 0, .int .i64 0, .int .i64 0, .int .i64 0, .bool false]), 11, 96) := by kernel_rfl

/-- a part more, behind a row of the call's own: it lies in a block of its own first -/
theorem wpList_pushP {w W0 : World} {ops : Array Oper} {rest : List Oper} {o : Oper} {a : Act} {Q : Exit → Act → World → Prop} (hgd : o.guard = none) (s x : Operand)
    (ho : o.op = .call { callee := .builtin .append, args := #[s, x], argTypes := #[24, 24] })
    (base : Nat) (v : Value) (n : Nat) (l : List P11) (u : P11) (g : Nat) (hg : w.heap.size = g) (hx : a.eval x = .slice (some ⟨g, 0, none⟩) 1 1)
    (hs : a.eval s = v) (hown : w.ownsRow base 32 11 v n (l.flatMap P11.cells)) (hn : n < 4294967296)
    (hbel : Below base W0 w) (hbase : base ≤ w.heap.size)
    (h : ∀ v' w', w'.ownsRow base 32 11 v' (n + 1) ((l ++ [u]).flatMap P11.cells) → Below base W0 w' → base ≤ w'.heap.size → wpList Try.prog ops Q rest (a.put o.dst v') w') :
    wpList Try.prog ops Q (o :: rest) a (w.alloc (partCells u)) := by
  subst hg
  obtain ⟨i0, hi0, hz0, hz1, hz2⟩ := info_parts Try.infoPart
  refine wpList_append_own _ hgd s x 24 ho base 32 i0 _ 11 96 Try.underlying24 hi0 hz0 hz1 hz2 rfl (by omega) v n (l.flatMap P11.cells) hs (hown.alloc _) ⟨w.heap.size, 0, none⟩ 1 1 u.cells hx rfl ?_
    (p11one u) (by simp only [maxLen]; omega) (by omega) (by simp; omega) ?_
  · intro j y hj
    rw [Addr.add_lit, Nat.zero_add, cell_row (heap_alloc_new w _)]
    simpa [P11.cells] using hj
  intro v' w' hown' hgrow _
  refine h v' w' ?_ ?_ (by have := hgrow.size; simp at this; omega)
  · rw [List.flatMap_append]
    simpa using hown'
  · exact (hbel.alloc hbase _).grown hgrow (by simp; omega) (fun k hk => (hown.lt k hk).1)
/-- a part in a block of its own: its cells -/
theorem part_row {w : World} {g : Nat} {x : P11} (h : w.heap[g]? = some (partCells x)) : w.cell? ⟨g, 0, none⟩ = some (.int .i64 x.v.k) ∧ w.cell? ⟨g, 1, none⟩ = some (.int .i64 x.v.n) ∧ w.cell? ⟨g, 2, none⟩ = some (.string x.v.s) ∧ w.cell? ⟨g, 3, none⟩ = some (.int .i64 x.d.d) ∧ w.cell? ⟨g, 4, none⟩ = some (.int .i64 x.d.s) ∧ w.cell? ⟨g, 5, none⟩ = some (.int .i64 x.i) ∧ w.cell? ⟨g, 6, none⟩ = some (.int .i64 x.t) ∧ w.cell? ⟨g, 7, none⟩ = some (.int .i64 x.a.d) ∧ w.cell? ⟨g, 8, none⟩ = some (.int .i64 x.a.s) ∧ w.cell? ⟨g, 9, none⟩ = some (.int .i64 x.j) ∧ w.cell? ⟨g, 10, none⟩ = some (.bool x.g) := by
  have h2 := cell_row h
  refine ⟨?_, ?_, ?_, ?_, ?_, ?_, ?_, ?_, ?_, ?_, ?_⟩ <;> (rw [h2]; rfl)
end Go.Proofs.Ytieaobeidlhefaa
