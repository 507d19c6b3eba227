/- '==' and '!=' of two values, as one equation: the walk need not part at it. -/
import Derived.Test.YtkpkkkmokgmhfaaValPlain
namespace Go.Proofs.Ytkpkkkmokgmhfaa
set_option maxRecDepth 100000
open Go.RowKit

theorem toList_ne {s t : ByteArray} (h : ¬ s = t) : ¬ s.toList = t.toList := fun e => h (by
  rw [Lib.toList_data, Lib.toList_data] at e
  exact ByteArray.ext (Array.toList_inj.1 e))

theorem fieldsVal : (Try.prog.fieldsOf 23).toList = [{ name := "Kind", type := 3, offset := 0, embedded := false, tag := "", pkgPath := "", byteOffset := 0 }, { name := "N", type := 3, offset := 1, embedded := false, tag := "", pkgPath := "", byteOffset := 8 },
    { name := "S", type := 9, offset := 2, embedded := false, tag := "", pkgPath := "", byteOffset := 16 }] := by kernel_rfl

theorem run_equalIn_val (k n k' n' : Int) (s s' : ByteArray) (W : World) :
    (Op.equalIn 10000 23 (.agg #[.int .i64 k, .int .i64 n, .string s]) (.agg #[.int .i64 k', .int .i64 n', .string s'])).run Try.prog W = .ok (sameZ k n s k' n' s') W := by
  have ht : Try.prog.underlying 23 = some (.struct (Try.prog.fieldsOf 23)) := by kernel_rfl
  have hp : Try.prog.stoodInHeld 23 = false := by kernel_rfl
  have p0 : ∀ a b c : Value, (part 3 #[a, b, c] 0).run Try.prog W = .ok a W := fun _ _ _ => rfl
  have p1 : ∀ a b c : Value, (part 3 #[a, b, c] 1).run Try.prog W = .ok b W := fun _ _ _ => rfl
  have p2 : ∀ a b c : Value, (part 9 #[a, b, c] 2).run Try.prog W = .ok c W := fun _ _ _ => rfl
  have q0 : ∀ a b : Int, (Op.equalIn 9999 3 (.int .i64 a) (.int .i64 b)).run Try.prog W = .ok (a == b) W := fun a b => run_equalIn_int W 9998 _ _ _ a b Try.underlying3
  have q1 : ∀ a b : ByteArray, (Op.equalIn 9999 9 (.string a) (.string b)).run Try.prog W = .ok (a.toList == b.toList) W := fun a b => run_equalIn_string W 9998 _ a b Try.underlying9
  rw [show (10000 : Nat) = 9999 + 1 from rfl, run_equalIn_struct W 9999 _ _ _ ht hp, fieldsVal]
  generalize hP : Try.prog = P at p0 p1 p2 q0 q1 ⊢
  simp only [Op.eqFields]
  rw [if_pos (by decide), if_pos (by decide), if_pos (by decide)]
  simp only [Sem.run_bind, p0, q0, Result.andThen]
  rcases Decidable.em (k = k') with rfl | hk <;> rcases Decidable.em (n = n') with rfl | hn <;> rcases Decidable.em (s = s') with rfl | hs
  all_goals try have hs3 := toList_ne hs
  all_goals simp [sameZ, *, Sem.run_bind, Result.andThen]
end Go.Proofs.Ytkpkkkmokgmhfaa
