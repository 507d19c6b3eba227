/- Layer 5: dots: their cells, rows of them, two rows held against each other. -/
import Derived.Test.YtlgpijdemfccaaaMbVecRefMake
import Derived.Test.YtlgpijdemfccaaaMbRowMem
import Derived.Test.YtlgpijdemfccaaaMbRowOpen
namespace Go.Proofs.Ytlgpijdemfccaaa
set_option maxRecDepth 100000
open Go.RowKit

/-- a dot -/
structure D2 where
  d : Int
  s : Int
deriving DecidableEq
def D2.cells (x : D2) : List Value := [.int .i64 x.d, .int .i64 x.s]
abbrev D2.agg (x : D2) : Value := .agg #[.int .i64 x.d, .int .i64 x.s]
instance : Inhabited D2 := ⟨⟨0, 0⟩⟩
theorem d2len (x : D2) : x.cells.length = 2 := rfl
abbrev RdD (w : World) (A : Option Addr) (n c : Nat) (l : List D2) : Prop := RdG D2.cells 2 w A n c l

theorem RdG.dot {w : World} {A : Option Addr} {n c : Nat} {l : List D2} (h : RdD w A n c l) {k : Nat} (hk : k < n) :
    ∃ b o x, A = some ⟨b, o, none⟩ ∧ b < w.heap.size ∧ l[k]? = some x ∧ ∀ w', Below w.heap.size w w' → w'.cell? ⟨b, o + k * 2, none⟩ = some (.int .i64 x.d) ∧ w'.cell? ⟨b, o + k * 2 + 1, none⟩ = some (.int .i64 x.s) := by
  obtain ⟨b, o, x, rfl, hb, hx, hc⟩ := h.at_ hk
  exact ⟨b, o, x, rfl, hb, hx, fun w' hw => ⟨(hw.cell hb).trans (hc 0 _ rfl), (hw.cell hb).trans (hc 1 _ rfl)⟩⟩

theorem fieldsDot : (Try.prog.fieldsOf 40).toList = [{ name := "Dev", type := 3, offset := 0, embedded := false, tag := "", pkgPath := "", byteOffset := 0 }, { name := "Seq", type := 3, offset := 1, embedded := false, tag := "", pkgPath := "", byteOffset := 8 }] := by kernel_rfl

theorem run_equalIn_dot (a b x y : Int) (W : World) :
    (Op.equalIn 10000 40 (.agg #[.int .i64 a, .int .i64 b]) (.agg #[.int .i64 x, .int .i64 y])).run Try.prog W = .ok (decide ((⟨a, b⟩ : D2) = ⟨x, y⟩)) W := by
  have ht : Try.prog.underlying 40 = some (.struct (Try.prog.fieldsOf 40)) := by kernel_rfl
  have hp : Try.prog.stoodInHeld 40 = false := by kernel_rfl
  have p0 : ∀ a b : Value, (part 3 #[a, b] 0).run Try.prog W = .ok a W := fun _ _ => rfl
  have p1 : ∀ a b : Value, (part 3 #[a, b] 1).run Try.prog W = .ok b W := fun _ _ => rfl
  have q0 : ∀ a b : Int, (Op.equalIn 9999 3 (.int .i64 a) (.int .i64 b)).run Try.prog W = .ok (a == b) W := fun a b => run_equalIn_int W 9998 _ _ _ a b Try.underlying3
  rw [show (10000 : Nat) = 9999 + 1 from rfl, run_equalIn_struct W 9999 _ _ _ ht hp, fieldsDot]
  generalize hP : Try.prog = P at p0 p1 q0 ⊢
  simp only [Op.eqFields]
  rw [if_pos (by decide), if_pos (by decide)]
  simp only [Sem.run_bind, p0, q0, Result.andThen]
  rcases Decidable.em (a = x) with rfl | hk <;> rcases Decidable.em (b = y) with rfl | hn
  all_goals simp [*, Sem.run_bind, Result.andThen]

theorem Try.infoDot : (Try.prog.info? 40).map (fun i => (i.zero, i.size, i.bytes)) = some (some (.agg #[.int .i64 0, .int .i64 0]), 2, 16) := by kernel_rfl

end Go.Proofs.Ytlgpijdemfccaaa

