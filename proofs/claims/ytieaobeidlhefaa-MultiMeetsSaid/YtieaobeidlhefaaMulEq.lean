/- Layer 7: '==' and '!=' of two parts, as one equation. -/
import Derived.Test.YtieaobeidlhefaaMulMath
namespace Go.Proofs.Ytieaobeidlhefaa
set_option maxRecDepth 100000
open Go.RowKit

theorem sameZ_is (a b : V3) : sameZ a.k a.n a.s b.k b.n b.s = decide (a = b) := by
  obtain ⟨k, n, s⟩ := a; obtain ⟨k', n', s'⟩ := b
  refine Bool.eq_iff_iff.2 ?_
  simp [sameZ, and_assoc]

theorem run_equalIn_valF (f : Nat) (a b : V3) (W : World) :
    (Op.equalIn (f + 2) 23 a.agg b.agg).run Try.prog W = .ok (decide (a = b)) W := by
  rw [← sameZ_is]
  obtain ⟨k, n, s⟩ := a; obtain ⟨k', n', s'⟩ := b
  have ht : Try.prog.underlying 23 = some (.struct (Try.prog.fieldsOf 23)) := by kernel_rfl
  have hp : Try.prog.stoodInHeld 23 = false := by kernel_rfl
  have p0 : ∀ a b c : Value, (part 3 #[a, b, c] 0).run Try.prog W = .ok a W := fun _ _ _ => rfl
  have p1 : ∀ a b c : Value, (part 3 #[a, b, c] 1).run Try.prog W = .ok b W := fun _ _ _ => rfl
  have p2 : ∀ a b c : Value, (part 9 #[a, b, c] 2).run Try.prog W = .ok c W := fun _ _ _ => rfl
  have q0 : ∀ a b : Int, (Op.equalIn (f + 1) 3 (.int .i64 a) (.int .i64 b)).run Try.prog W = .ok (a == b) W := fun a b => run_equalIn_int W f _ _ _ a b Try.underlying3
  have q1 : ∀ a b : ByteArray, (Op.equalIn (f + 1) 9 (.string a) (.string b)).run Try.prog W = .ok (a.toList == b.toList) W := fun a b => run_equalIn_string W f _ a b Try.underlying9
  show (Op.equalIn (f + 1 + 1) _ _ _).run _ _ = _
  rw [V3.agg, V3.agg, run_equalIn_struct W (f + 1) _ _ _ ht hp, fieldsVal]
  generalize hP : Try.prog = P at p0 p1 p2 q0 q1 ⊢
  simp only [Op.eqFields]
  rw [if_pos (by decide), if_pos (by decide), if_pos (by decide)]
  simp only [Sem.run_bind, p0, q0, Result.andThen]
  rcases Decidable.em (k = k') with rfl | hk <;> rcases Decidable.em (n = n') with rfl | hn <;> rcases Decidable.em (s = s') with rfl | hs
  all_goals try have hs3 := toList_ne hs
  all_goals simp [sameZ, *, Sem.run_bind, Result.andThen]

theorem run_equalIn_dotF (f : Nat) (a b : D2) (W : World) :
    (Op.equalIn (f + 2) 30 a.agg b.agg).run Try.prog W = .ok (decide (a = b)) W := by
  obtain ⟨a1, a2⟩ := a; obtain ⟨x, y⟩ := b
  have ht : Try.prog.underlying 30 = some (.struct (Try.prog.fieldsOf 30)) := by kernel_rfl
  have hp : Try.prog.stoodInHeld 30 = false := by kernel_rfl
  have p0 : ∀ a b : Value, (part 3 #[a, b] 0).run Try.prog W = .ok a W := fun _ _ => rfl
  have p1 : ∀ a b : Value, (part 3 #[a, b] 1).run Try.prog W = .ok b W := fun _ _ => rfl
  have q0 : ∀ a b : Int, (Op.equalIn (f + 1) 3 (.int .i64 a) (.int .i64 b)).run Try.prog W = .ok (a == b) W := fun a b => run_equalIn_int W f _ _ _ a b Try.underlying3
  show (Op.equalIn (f + 1 + 1) _ _ _).run _ _ = _
  rw [D2.agg, D2.agg, run_equalIn_struct W (f + 1) _ _ _ ht hp, fieldsDot]
  generalize hP : Try.prog = P at p0 p1 q0 ⊢
  simp only [Op.eqFields]
  rw [if_pos (by decide), if_pos (by decide)]
  simp only [Sem.run_bind, p0, q0, Result.andThen]
  rcases Decidable.em (a1 = x) with rfl | hk <;> rcases Decidable.em (a2 = y) with rfl | hn
  all_goals simp [*, Sem.run_bind, Result.andThen]

theorem fieldsPart : (Try.prog.fieldsOf 32).toList = [{ name := "Val", type := 23, offset := 0, embedded := false, tag := "", pkgPath := "", byteOffset := 0 }, { name := "Dot", type := 30, offset := 3, embedded := false, tag := "", pkgPath := "", byteOffset := 32 },
    { name := "At", type := 3, offset := 5, embedded := false, tag := "", pkgPath := "", byteOffset := 48 }, { name := "Time", type := 3, offset := 6, embedded := false, tag := "", pkgPath := "", byteOffset := 56 }, { name := "After", type := 30, offset := 7, embedded := false, tag := "", pkgPath := "", byteOffset := 64 },
    { name := "AfterAt", type := 3, offset := 9, embedded := false, tag := "", pkgPath := "", byteOffset := 80 }, { name := "Gone", type := 4, offset := 10, embedded := false, tag := "", pkgPath := "", byteOffset := 88 }] := by kernel_rfl

def sameP (a b : P11) : Bool := decide (a.v = b.v) && decide (a.d = b.d) && (a.i == b.i) && (a.t == b.t) && decide (a.a = b.a) && (a.j == b.j) && (a.g == b.g)
theorem sameP_is (a b : P11) : sameP a b = decide (a = b) := by
  obtain ⟨v, d, i, t, u, j, g⟩ := a; obtain ⟨v', d', i', t', u', j', g'⟩ := b
  refine Bool.eq_iff_iff.2 ?_
  simp [sameP, and_assoc]

theorem run_equalIn_part (a b : P11) (W : World) :
    (Op.equalIn 10000 32 a.agg b.agg).run Try.prog W = .ok (decide (a = b)) W := by
  rw [← sameP_is]
  obtain ⟨⟨vk, vn, vs⟩, ⟨dd, ds⟩, i, t, ⟨ad, az⟩, j, g⟩ := a; obtain ⟨⟨vk', vn', vs'⟩, ⟨dd', ds'⟩, i', t', ⟨ad', az'⟩, j', g'⟩ := b
  have ht : Try.prog.underlying 32 = some (.struct (Try.prog.fieldsOf 32)) := by kernel_rfl
  have hp : Try.prog.stoodInHeld 32 = false := by kernel_rfl
  have p0 : ∀ a b c d e f g h i j k : Value, (Go.part 23 #[a, b, c, d, e, f, g, h, i, j, k] 0).run Try.prog W = .ok (.agg #[a, b, c]) W := fun _ _ _ _ _ _ _ _ _ _ _ => rfl
  have p3 : ∀ a b c d e f g h i j k : Value, (Go.part 30 #[a, b, c, d, e, f, g, h, i, j, k] 3).run Try.prog W = .ok (.agg #[d, e]) W := fun _ _ _ _ _ _ _ _ _ _ _ => rfl
  have p5 : ∀ a b c d e f g h i j k : Value, (Go.part 3 #[a, b, c, d, e, f, g, h, i, j, k] 5).run Try.prog W = .ok f W := fun _ _ _ _ _ _ _ _ _ _ _ => rfl
  have p6 : ∀ a b c d e f g h i j k : Value, (Go.part 3 #[a, b, c, d, e, f, g, h, i, j, k] 6).run Try.prog W = .ok g W := fun _ _ _ _ _ _ _ _ _ _ _ => rfl
  have p7 : ∀ a b c d e f g h i j k : Value, (Go.part 30 #[a, b, c, d, e, f, g, h, i, j, k] 7).run Try.prog W = .ok (.agg #[h, i]) W := fun _ _ _ _ _ _ _ _ _ _ _ => rfl
  have p9 : ∀ a b c d e f g h i j k : Value, (Go.part 3 #[a, b, c, d, e, f, g, h, i, j, k] 9).run Try.prog W = .ok j W := fun _ _ _ _ _ _ _ _ _ _ _ => rfl
  have p10 : ∀ a b c d e f g h i j k : Value, (Go.part 4 #[a, b, c, d, e, f, g, h, i, j, k] 10).run Try.prog W = .ok k W := fun _ _ _ _ _ _ _ _ _ _ _ => rfl
  have q0 : ∀ a b : Int, (Op.equalIn 9999 3 (.int .i64 a) (.int .i64 b)).run Try.prog W = .ok (a == b) W := fun a b => run_equalIn_int W 9998 _ _ _ a b Try.underlying3
  have qv : ∀ k n k' n' s s', (Op.equalIn 9999 23 (.agg #[.int .i64 k, .int .i64 n, .string s]) (.agg #[.int .i64 k', .int .i64 n', .string s'])).run Try.prog W = .ok (decide ((⟨k, n, s⟩ : V3) = ⟨k', n', s'⟩)) W := fun k n k' n' s s' => run_equalIn_valF 9997 ⟨k, n, s⟩ ⟨k', n', s'⟩ W
  have qd : ∀ a b x y, (Op.equalIn 9999 30 (.agg #[.int .i64 a, .int .i64 b]) (.agg #[.int .i64 x, .int .i64 y])).run Try.prog W = .ok (decide ((⟨a, b⟩ : D2) = ⟨x, y⟩)) W := fun a b x y => run_equalIn_dotF 9997 ⟨a, b⟩ ⟨x, y⟩ W
  have qb : ∀ a b : Bool, (Op.equalIn 9999 4 (.bool a) (.bool b)).run Try.prog W = .ok (a == b) W := fun a b => run_equalIn_bool W 9998 _ a b Try.underlying4
  rw [show (10000 : Nat) = 9999 + 1 from rfl, run_equalIn_struct W 9999 _ _ _ ht hp, fieldsPart]
  generalize hP : Try.prog = P at p0 p3 p5 p6 p7 p9 p10 q0 qv qd qb ⊢
  simp only [Op.eqFields]
  rw [if_pos (by decide), if_pos (by decide), if_pos (by decide), if_pos (by decide), if_pos (by decide), if_pos (by decide), if_pos (by decide)]
  simp only [sameP]
  have r1 := qv vk vn vk' vn' vs vs'
  have r2 := qd dd ds dd' ds'
  have r3 := q0 i i'
  have r4 := q0 t t'
  have r5 := qd ad az ad' az'
  have r6 := q0 j j'
  have r7 := qb g g'
  obtain ⟨b1, e1⟩ : ∃ b, b = (decide ((⟨vk, vn, vs⟩ : V3) = ⟨vk', vn', vs'⟩)) := ⟨_, rfl⟩
  obtain ⟨b2, e2⟩ : ∃ b, b = (decide ((⟨dd, ds⟩ : D2) = ⟨dd', ds'⟩)) := ⟨_, rfl⟩
  obtain ⟨b3, e3⟩ : ∃ b, b = (i == i') := ⟨_, rfl⟩
  obtain ⟨b4, e4⟩ : ∃ b, b = (t == t') := ⟨_, rfl⟩
  obtain ⟨b5, e5⟩ : ∃ b, b = (decide ((⟨ad, az⟩ : D2) = ⟨ad', az'⟩)) := ⟨_, rfl⟩
  obtain ⟨b6, e6⟩ : ∃ b, b = (j == j') := ⟨_, rfl⟩
  obtain ⟨b7, e7⟩ : ∃ b, b = (g == g') := ⟨_, rfl⟩
  rw [← e1] at r1 ⊢
  rw [← e2] at r2 ⊢
  rw [← e3] at r3 ⊢
  rw [← e4] at r4 ⊢
  rw [← e5] at r5 ⊢
  rw [← e6] at r6 ⊢
  rw [← e7] at r7 ⊢
  clear e1 e2 e3 e4 e5 e6 e7 q0 qv qd qb ht hp hP
  cases b1
  · simp [*, Sem.run_bind, Result.andThen]
  cases b2
  · simp [*, Sem.run_bind, Result.andThen]
  cases b3
  · simp [*, Sem.run_bind, Result.andThen]
  cases b4
  · simp [*, Sem.run_bind, Result.andThen]
  cases b5
  · simp [*, Sem.run_bind, Result.andThen]
  cases b6
  · simp [*, Sem.run_bind, Result.andThen]
  cases b7
  · simp [*, Sem.run_bind, Result.andThen]
  simp [*, Sem.run_bind, Result.andThen]
end Go.Proofs.Ytieaobeidlhefaa
