/- Layer 11: '==' of a foreign key with itself, of a pair with itself; how many kids there are. -/
import Derived.Test.YtogfnjlhfbpneaaSchKids
import Derived.ChangeKeysEq
namespace Go.Proofs.Ytogfnjlhfbpneaa
set_option maxRecDepth 100000
open Go.RowKit

theorem fieldsFk : (Try.prog.fieldsOf 42).toList = [{ name := "Col", type := 3, offset := 0, embedded := false, tag := "", pkgPath := "", byteOffset := 0 }, { name := "Table", type := 3, offset := 1, embedded := false, tag := "", pkgPath := "", byteOffset := 8 }, { name := "Act", type := 3, offset := 2, embedded := false, tag := "", pkgPath := "", byteOffset := 16 }] := by kernel_rfl
theorem run_eq_fk (x : F3) (W : World) : (Op.equalIn 10000 42 (.agg #[.int .i64 x.a, .int .i64 x.b, .int .i64 x.c]) (.agg #[.int .i64 x.a, .int .i64 x.b, .int .i64 x.c])).run Try.prog W = .ok true W := by
  have ht : Try.prog.underlying 42 = some (.struct (Try.prog.fieldsOf 42)) := by kernel_rfl
  have hp : Try.prog.stoodInHeld 42 = false := by kernel_rfl
  have p0 : ∀ a b c : Value, (part 3 #[a, b, c] 0).run Try.prog W = .ok a W := fun _ _ _ => rfl
  have p1 : ∀ a b c : Value, (part 3 #[a, b, c] 1).run Try.prog W = .ok b W := fun _ _ _ => rfl
  have p2 : ∀ a b c : Value, (part 3 #[a, b, c] 2).run Try.prog W = .ok c W := fun _ _ _ => rfl
  have q0 : ∀ a b : Int, (Op.equalIn 9999 3 (.int .i64 a) (.int .i64 b)).run Try.prog W = .ok (a == b) W := fun a b => run_equalIn_int W 9998 _ _ _ a b Try.underlying3
  rw [show (10000 : Nat) = 9999 + 1 from rfl, run_equalIn_struct W 9999 _ _ _ ht hp, fieldsFk]
  generalize hP : Try.prog = P at p0 p1 p2 q0 ⊢
  simp only [Op.eqFields]
  rw [if_pos (by decide), if_pos (by decide), if_pos (by decide)]
  simp [Sem.run_bind, p0, p1, p2, q0, Result.andThen]
theorem run_eq_pair (x y : Int) (W : World) : (Op.equalIn 10000 30 (.agg #[.int .i64 x, .int .i64 y]) (.agg #[.int .i64 x, .int .i64 y])).run Try.prog W = .ok true W := by
  have hu : Try.prog.underlying 30 = some (.array 2 3) := by kernel_rfl
  obtain ⟨i0, hi0⟩ : ∃ i0, Try.prog.info? 3 = some i0 := Option.isSome_iff_exists.1 (by kernel_rfl)
  have hc : Try.prog.cellsOf 3 = 1 := by kernel_rfl
  have p0 : ∀ a b : Value, (part 3 #[a, b] 0).run Try.prog W = .ok a W := fun _ _ => rfl
  have p1 : ∀ a b : Value, (part 3 #[a, b] 1).run Try.prog W = .ok b W := fun _ _ => rfl
  have q0 : ∀ a b : Int, (Op.equalIn 9999 3 (.int .i64 a) (.int .i64 b)).run Try.prog W = .ok (a == b) W := fun a b => run_equalIn_int W 9998 _ _ _ a b Try.underlying3
  rw [show (10000 : Nat) = 9999 + 1 from rfl, run_equalIn_array W 9999 _ _ hu hi0, hc]
  generalize hP : Try.prog = P at p0 p1 q0 ⊢
  simp [List.range, List.range.loop, Op.eqItems, Sem.run_bind, p0, p1, q0, Result.andThen]

theorem kidsRow_len (i : Nat) (z : Int) : ∀ (l : List F3) (j : Nat), (kidsRow i z j l).length ≤ l.length
  | [], _ => Nat.le_refl _
  | f :: l, j => by
    have := kidsRow_len i z l (j + 1)
    simp only [kidsRow]
    split <;> simp only [List.length_cons] <;> omega
theorem kidsAt_len (z : Int) {w : World} : ∀ (l : List T6) (i : Nat), (∀ t ∈ l, t.Reads w) → (kidsAt z i l).length ≤ sumT l
  | [], _, _ => Nat.le_refl _
  | t :: l, i, h => by
    have h1 := kidsRow_len i z t.fks 0
    have h2 := kidsAt_len z l (i + 1) (fun x hx => h x (List.mem_cons_of_mem _ hx))
    have h3 := (h t (by simp)).fks.len
    simp only [kidsAt, List.length_append, sumT, List.map_cons, List.sum_cons, sizeT] at *
    omega
theorem kidsL_few {w : World} {A : Option Addr} {n c : Nat} {l : List T6} (h : RdS w A n c l) (hf : fewB l = true) (z : Int) : (kidsL l z).length < 4294967296 := by
  have := kidsAt_len z l 0 h.each
  simp only [fewB, Bool.and_eq_true, decide_eq_true_eq] at hf
  unfold kidsL
  omega
end Go.Proofs.Ytogfnjlhfbpneaa
