/- Layer 4: stamps: their cells, and how two of them stand to one another, in plain words. -/
import Derived.Test.YtlgpijdemfccaaaRows
import Derived.Test.YtlgpijdemfccaaaMbBase
import Derived.Test.YtlgpijdemfccaaaMbRowMem
import Derived.Laws.Rows
namespace Go.Proofs.Ytlgpijdemfccaaa
set_option maxRecDepth 100000
open Go.RowKit

/-- a stamp -/
structure S3 where
  t : Int
  d : Int
  q : Int
deriving DecidableEq
def S3.cells (s : S3) : List Value := [.int .i64 s.t, .int .i64 s.d, .int .i64 s.q]
abbrev S3.agg (s : S3) : Value := .agg #[.int .i64 s.t, .int .i64 s.d, .int .i64 s.q]
instance : Inhabited S3 := ⟨⟨0, 0, 0⟩⟩

def cmpI (x y : Int) : Int := if x < y then -1 else if y < x then 1 else 0
def cmpS (a b : S3) : Int := if a.t ≠ b.t then cmpI a.t b.t else if a.d ≠ b.d then cmpI a.d b.d else cmpI a.q b.q
def lessS (a b : S3) : Bool := if a.t ≠ b.t then decide (a.t < b.t) else if a.d ≠ b.d then decide (a.d < b.d) else decide (a.q < b.q)

theorem cmpI_less (x y : Int) : decide (cmpI x y < 0) = decide (x < y) := by
  unfold cmpI; split
  · simp [*]
  · split <;> simp <;> omega
theorem cmpS_less (a b : S3) : decide (cmpS a b < 0) = lessS a b := by
  unfold cmpS lessS
  split
  · exact cmpI_less _ _
  · split <;> exact cmpI_less _ _
theorem s3_ext {a b : S3} (h1 : a.t = b.t) (h2 : a.d = b.d) (h3 : a.q = b.q) : a = b := by
  cases a; cases b; simp_all
theorem cmpS_self (a : S3) : cmpS a a = 0 := by simp [cmpS, cmpI]

abbrev RdS (w : World) (A : Option Addr) (n c : Nat) (l : List S3) : Prop := RdG S3.cells 3 w A n c l
theorem s3len (s : S3) : s.cells.length = 3 := rfl

/-- an element, and its cells -/
theorem RdG.stamp {w : World} {A : Option Addr} {n c : Nat} {l : List S3} (h : RdS w A n c l) {k : Nat} (hk : k < n) :
    ∃ b o x, A = some ⟨b, o, none⟩ ∧ b < w.heap.size ∧ l[k]? = some x ∧ ∀ w', Below w.heap.size w w' → w'.cell? ⟨b, o + k * 3, none⟩ = some (.int .i64 x.t) ∧ w'.cell? ⟨b, o + k * 3 + 1, none⟩ = some (.int .i64 x.d) ∧ w'.cell? ⟨b, o + k * 3 + 2, none⟩ = some (.int .i64 x.q) := by
  obtain ⟨b, o, x, rfl, hb, hx, hc⟩ := h.at_ hk
  exact ⟨b, o, x, rfl, hb, hx, fun w' hw => ⟨(hw.cell hb).trans (hc 0 _ rfl), (hw.cell hb).trans (hc 1 _ rfl), (hw.cell hb).trans (hc 2 _ rfl)⟩⟩
theorem stamp_at {W : World} {g : Nat} {a b c : Value} {t : TypeId} {fr : Nat × Nat} (h : W.heap[g]? = some (.cells #[a, b, c] t fr)) :
    W.cell? ⟨g, 0, none⟩ = some a ∧ W.cell? ⟨g, 1, none⟩ = some b ∧ W.cell? ⟨g, 2, none⟩ = some c :=
  ⟨cell_row h 0, cell_row h 1, cell_row h 2⟩
end Go.Proofs.Ytlgpijdemfccaaa

