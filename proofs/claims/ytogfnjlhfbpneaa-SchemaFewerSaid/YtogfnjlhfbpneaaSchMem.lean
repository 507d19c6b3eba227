/- Layer 11: tables, columns, keys and bounds, and where their parts lie. -/
import Derived.Test.YtogfnjlhfbpneaaSchMath
import Derived.Laws.NewBlocks
import Derived.Deep.WholeRow
namespace Go.Proofs.Ytogfnjlhfbpneaa
set_option maxRecDepth 100000
open Go.RowKit

abbrev RdF (w : World) (A : Option Addr) (n c : Nat) (l : List F3) : Prop := RdG F3.cells 3 w A n c l
/-- a table's parts read so -/
structure T6.Reads (w : World) (t : T6) : Prop where
  cols : RdC w t.ca t.nc t.cc t.cols
  uni : Rd w t.ua t.nu t.uc (vals .i64 t.uni)
  chk : t.nh ≤ t.hc ∧ t.hc ≤ maxLen
  fks : RdF w t.fa t.nf t.fc t.fks
  sums : RdF w t.sa t.ns t.sc t.sums
theorem T6.Reads.below {w w' : World} {t : T6} (h : t.Reads w) (b : Below w.heap.size w w') : t.Reads w' :=
  ⟨h.cols.below b, h.uni.below b, h.chk, h.fks.below b, h.sums.below b⟩
/-- a schema's tables read so -/
structure RdS (w : World) (A : Option Addr) (n c : Nat) (l : List T6) : Prop where
  row : RdG T6.cells 6 w A n c l
  each : ∀ t ∈ l, t.Reads w
theorem RdS.below {w w' : World} {A : Option Addr} {n c : Nat} {l : List T6} (h : RdS w A n c l) (b : Below w.heap.size w w') : RdS w' A n c l :=
  ⟨h.row.below b, fun t ht => (h.each t ht).below b⟩
theorem RdS.len {w : World} {A : Option Addr} {n c : Nat} {l : List T6} (h : RdS w A n c l) : l.length = n := h.row.len
theorem RdS.le {w : World} {A : Option Addr} {n c : Nat} {l : List T6} (h : RdS w A n c l) : n ≤ 9223372036854775807 := h.row.le
theorem RdS.upto {w : World} {A : Option Addr} {n c : Nat} {l : List T6} (h : RdS w A n c l) {k : Nat} (hk : k ≤ n) : RdS w A k c (l.take k) :=
  ⟨by have := h.row.upto hk (Nat.le_trans hk h.row.cap) (Nat.le_refl c); exact this, fun t ht => h.each t (List.mem_of_mem_take ht)⟩
theorem RdG.f3 {w : World} {A : Option Addr} {n c : Nat} {l : List F3} (h : RdF w A n c l) {k : Nat} (hk : k < n) :
    ∃ b o x, A = some ⟨b, o, none⟩ ∧ b < w.heap.size ∧ l[k]? = some x ∧ ∀ w', Below w.heap.size w w' → w'.cell? ⟨b, o + k * 3, none⟩ = some (.int .i64 x.a) ∧ w'.cell? ⟨b, o + k * 3 + 1, none⟩ = some (.int .i64 x.b) ∧ w'.cell? ⟨b, o + k * 3 + 2, none⟩ = some (.int .i64 x.c) := by
  obtain ⟨b, o, x, rfl, hb, hx, hc⟩ := h.at_ hk
  exact ⟨b, o, x, rfl, hb, hx, fun w' hw => ⟨(hw.cell hb).trans (hc 0 _ rfl), (hw.cell hb).trans (hc 1 _ rfl), (hw.cell hb).trans (hc 2 _ rfl)⟩⟩
theorem RdS.tab {w : World} {A : Option Addr} {n c : Nat} {l : List T6} (h : RdS w A n c l) {k : Nat} (hk : k < n) :
    ∃ b o x, A = some ⟨b, o, none⟩ ∧ b < w.heap.size ∧ l[k]? = some x ∧ x.Reads w ∧ ∀ w', Below w.heap.size w w' → w'.cell? ⟨b, o + k * 6, none⟩ = some (.string x.nm) ∧ w'.cell? ⟨b, o + k * 6 + 1, none⟩ = some (.slice x.ca x.nc x.cc) ∧ w'.cell? ⟨b, o + k * 6 + 2, none⟩ = some (.slice x.ua x.nu x.uc)
      ∧ w'.cell? ⟨b, o + k * 6 + 3, none⟩ = some (.slice x.ha x.nh x.hc) ∧ w'.cell? ⟨b, o + k * 6 + 4, none⟩ = some (.slice x.fa x.nf x.fc) ∧ w'.cell? ⟨b, o + k * 6 + 5, none⟩ = some (.slice x.sa x.ns x.sc) := by
  obtain ⟨b, o, x, rfl, hb, hx, hc⟩ := h.row.at_ hk
  exact ⟨b, o, x, rfl, hb, hx, h.each x (List.mem_of_getElem? hx), fun w' hw => ⟨(hw.cell hb).trans (hc 0 _ rfl), (hw.cell hb).trans (hc 1 _ rfl), (hw.cell hb).trans (hc 2 _ rfl), (hw.cell hb).trans (hc 3 _ rfl), (hw.cell hb).trans (hc 4 _ rfl), (hw.cell hb).trans (hc 5 _ rfl)⟩⟩

/-- what boxes hold -/
abbrev tabBox (t : T6) : Obj := .cells #[.string t.nm, .slice t.ca t.nc t.cc, .slice t.ua t.nu t.uc, .slice t.ha t.nh t.hc, .slice t.fa t.nf t.fc, .slice t.sa t.ns t.sc] 39
abbrev schBox (A : Option Addr) (n c : Nat) : Obj := .cells #[.slice A n c] 26
abbrev colBox (c : C4) : Obj := .cells #[.string c.nm, .int .i64 c.k, .int .i64 c.t, .bool c.z] 49
abbrev fkBox (x : F3) : Obj := .cells #[.int .i64 x.a, .int .i64 x.b, .int .i64 x.c] 42
abbrev sumBox (x : F3) : Obj := .cells #[.int .i64 x.a, .int .i64 x.b, .int .i64 x.c] 66
theorem tab_row {w : World} {g : Nat} {t : T6} (h : w.heap[g]? = some (tabBox t)) : w.cell? ⟨g, 0, none⟩ = some (.string t.nm) ∧ w.cell? ⟨g, 1, none⟩ = some (.slice t.ca t.nc t.cc) ∧ w.cell? ⟨g, 2, none⟩ = some (.slice t.ua t.nu t.uc)
    ∧ w.cell? ⟨g, 3, none⟩ = some (.slice t.ha t.nh t.hc) ∧ w.cell? ⟨g, 4, none⟩ = some (.slice t.fa t.nf t.fc) ∧ w.cell? ⟨g, 5, none⟩ = some (.slice t.sa t.ns t.sc) :=
  ⟨cell_row h 0, cell_row h 1, cell_row h 2, cell_row h 3, cell_row h 4, cell_row h 5⟩
theorem sch_row {w : World} {g : Nat} {A : Option Addr} {n c : Nat} (h : w.heap[g]? = some (schBox A n c)) : w.cell? ⟨g, 0, none⟩ = some (.slice A n c) := cell_row h 0
theorem col_row {w : World} {g : Nat} {c : C4} (h : w.heap[g]? = some (colBox c)) : w.cell? ⟨g, 0, none⟩ = some (.string c.nm) ∧ w.cell? ⟨g, 1, none⟩ = some (.int .i64 c.k) ∧ w.cell? ⟨g, 2, none⟩ = some (.int .i64 c.t) ∧ w.cell? ⟨g, 3, none⟩ = some (.bool c.z) :=
  ⟨cell_row h 0, cell_row h 1, cell_row h 2, cell_row h 3⟩
theorem f3_row {w : World} {g : Nat} {x : F3} {t : TypeId} (h : w.heap[g]? = some (.cells #[.int .i64 x.a, .int .i64 x.b, .int .i64 x.c] t)) : w.cell? ⟨g, 0, none⟩ = some (.int .i64 x.a) ∧ w.cell? ⟨g, 1, none⟩ = some (.int .i64 x.b) ∧ w.cell? ⟨g, 2, none⟩ = some (.int .i64 x.c) :=
  ⟨cell_row h 0, cell_row h 1, cell_row h 2⟩
theorem str_row {w : World} {g : Nat} {s : ByteArray} {t : TypeId} (h : w.heap[g]? = some (.cells #[.string s] t)) : w.cell? ⟨g, 0, none⟩ = some (.string s) := cell_row h 0
theorem int_row {w : World} {g : Nat} {z : Int} {t : TypeId} (h : w.heap[g]? = some (.cells #[.int .i64 z] t)) : w.cell? ⟨g, 0, none⟩ = some (.int .i64 z) := cell_row h 0

/-- a closure over one thing tells p of it, in every world behind w0 -/
def TellsA {α : Type} (P : Program) (g : Nat) (cb : Array Value) (agg : α → Value) (p : α → Bool) (w0 : World) : Prop :=
  ∀ W, Below w0.heap.size w0 W → ∀ x : α, Calls P g (#[agg x] ++ cb) W fun e W' => e = .returned (.bool (p x)) ∧ Below W.heap.size W W'
end Go.Proofs.Ytogfnjlhfbpneaa
