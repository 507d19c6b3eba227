/- Layer 10: maps whose keys are names and dots. -/
import Derived.Test.YtlgpijdemfccaaaMbMapK
import Derived.Test.YtlgpijdemfccaaaMbTxtPlain
namespace Go.Proofs.Ytlgpijdemfccaaa
set_option maxRecDepth 100000
open Go.RowKit Go.MapKept

theorem fieldsName : (Try.prog.fieldsOf 54).toList = [{ name := "dot", type := 40, offset := 0, embedded := false, tag := "", pkgPath := "homestead/text", byteOffset := 0 }, { name := "at", type := 3, offset := 2, embedded := false, tag := "", pkgPath := "homestead/text", byteOffset := 16 }] := by kernel_rfl

theorem n3_is (a b i x y j : Int) : decide ((⟨⟨a, b⟩, i⟩ : N3) = ⟨⟨x, y⟩, j⟩) = (decide ((⟨a, b⟩ : D2) = ⟨x, y⟩) && (i == j)) := by
  refine Bool.eq_iff_iff.2 ?_
  simp
theorem run_equalIn_nameF (f : Nat) (a b : N3) (W : World) :
    (Op.equalIn (f + 3) 54 a.agg b.agg).run Try.prog W = .ok (decide (a = b)) W := by
  obtain ⟨⟨a1, a2⟩, i⟩ := a; obtain ⟨⟨x, y⟩, j⟩ := b
  rw [n3_is]
  have ht : Try.prog.underlying 54 = some (.struct (Try.prog.fieldsOf 54)) := by kernel_rfl
  have hp : Try.prog.stoodInHeld 54 = false := by kernel_rfl
  have p0 : ∀ a b c : Value, (part 40 #[a, b, c] 0).run Try.prog W = .ok (.agg #[a, b]) W := fun _ _ _ => rfl
  have p1 : ∀ a b c : Value, (part 3 #[a, b, c] 2).run Try.prog W = .ok c W := fun _ _ _ => rfl
  have q0 : ∀ a b : Int, (Op.equalIn (f + 2) 3 (.int .i64 a) (.int .i64 b)).run Try.prog W = .ok (a == b) W := fun a b => run_equalIn_int W (f + 1) _ _ _ a b Try.underlying3
  have qd : ∀ a b x y, (Op.equalIn (f + 2) 40 (.agg #[.int .i64 a, .int .i64 b]) (.agg #[.int .i64 x, .int .i64 y])).run Try.prog W = .ok (decide ((⟨a, b⟩ : D2) = ⟨x, y⟩)) W := fun a b x y => run_equalIn_dotF f ⟨a, b⟩ ⟨x, y⟩ W
  show (Op.equalIn (f + 2 + 1) _ _ _).run _ _ = _
  rw [N3.agg, N3.agg, run_equalIn_struct W (f + 2) _ _ _ ht hp, fieldsName]
  generalize hP : Try.prog = P at p0 p1 q0 qd ⊢
  simp only [Op.eqFields]
  rw [if_pos (by decide), if_pos (by decide)]
  have r1 := q0 i j
  have r2 := qd a1 a2 x y
  obtain ⟨b1, e1⟩ : ∃ b, b = (i == j) := ⟨_, rfl⟩
  obtain ⟨b2, e2⟩ : ∃ b, b = (decide ((⟨a1, a2⟩ : D2) = ⟨x, y⟩)) := ⟨_, rfl⟩
  rw [← e1] at r1 ⊢
  rw [← e2] at r2 ⊢
  clear e1 e2 q0 qd ht hp hP
  cases b2
  · simp [*, Sem.run_bind, Result.andThen]
  cases b1
  · simp [*, Sem.run_bind, Result.andThen]
  simp [*, Sem.run_bind, Result.andThen]

theorem run_checkKey_dotN (em : Bool) (n : Nat) (d : D2) (w : World) : (Instr.checkKey em (n + 2) 40 d.agg).run Try.prog w = .ok () w := by
  obtain ⟨a, b⟩ := d
  have ht : Try.prog.underlying 40 = some (.struct (Try.prog.fieldsOf 40)) := by kernel_rfl
  have p0 : ∀ a b : Value, (part 3 #[a, b] 0).run Try.prog w = .ok a w := fun _ _ => rfl
  have p1 : ∀ a b : Value, (part 3 #[a, b] 1).run Try.prog w = .ok b w := fun _ _ => rfl
  have q0 : ∀ x : Int, (Instr.checkKey em (n + 1) 3 (.int .i64 x)).run Try.prog w = .ok () w := fun x => Go.MapKept.run_checkKey (d := .int .i64) (k := .int .i64 x) Try.underlying3 (show IntKind.i64 = IntKind.i64 from rfl) em n
  show (Instr.checkKey em (n + 1 + 1) _ _).run _ _ = _
  unfold Instr.checkKey
  simp only [Sem.run_bind, run_underlying ht, Result.andThen_ok]
  have hf := fieldsDot
  obtain ⟨fs, hfs⟩ : ∃ fs, Try.prog.fieldsOf 40 = fs := ⟨_, rfl⟩
  rw [hfs] at hf ⊢
  cases fs with
  | mk l =>
    simp only at hf
    subst hf
    simp [Sem.run_bind, p0, p1, q0, Result.andThen]
theorem run_checkKey_name (em : Bool) (d : N3) (w : World) : (Instr.checkKey em 10000 54 d.agg).run Try.prog w = .ok () w := by
  obtain ⟨⟨a, b⟩, i⟩ := d
  have ht : Try.prog.underlying 54 = some (.struct (Try.prog.fieldsOf 54)) := by kernel_rfl
  have p0 : ∀ a b c : Value, (part 40 #[a, b, c] 0).run Try.prog w = .ok (.agg #[a, b]) w := fun _ _ _ => rfl
  have p1 : ∀ a b c : Value, (part 3 #[a, b, c] 2).run Try.prog w = .ok c w := fun _ _ _ => rfl
  have q0 : ∀ x : Int, (Instr.checkKey em 9999 3 (.int .i64 x)).run Try.prog w = .ok () w := fun x => Go.MapKept.run_checkKey (d := .int .i64) (k := .int .i64 x) Try.underlying3 (show IntKind.i64 = IntKind.i64 from rfl) em 9998
  have q1 : ∀ x y : Int, (Instr.checkKey em 9999 40 (.agg #[.int .i64 x, .int .i64 y])).run Try.prog w = .ok () w := fun x y => run_checkKey_dotN em 9997 ⟨x, y⟩ w
  rw [show (10000 : Nat) = 9999 + 1 from rfl]
  unfold Instr.checkKey
  simp only [Sem.run_bind, run_underlying ht, Result.andThen_ok]
  have hf := fieldsName
  obtain ⟨fs, hfs⟩ : ∃ fs, Try.prog.fieldsOf 54 = fs := ⟨_, rfl⟩
  rw [hfs] at hf ⊢
  cases fs with
  | mk l =>
    simp only at hf
    subst hf
    simp [Sem.run_bind, p0, p1, q0, q1, Result.andThen]
theorem bits_dot (d : D2) : Instr.sameBits 10000 d.agg d.agg = true := by
  obtain ⟨a, b⟩ := d
  rw [show (10000 : Nat) = 9999 + 1 from rfl]
  simp [Instr.sameBits]
theorem bits_name (d : N3) : Instr.sameBits 10000 d.agg d.agg = true := by
  obtain ⟨⟨a, b⟩, i⟩ := d
  rw [show (10000 : Nat) = 9999 + 1 from rfl]
  simp [Instr.sameBits]

theorem keyNI : KeyOf Try.prog 59 54 3 N3.agg (.int .i64 0) where
  und := Try.underlying59
  find := fun k es w => run_findKey_eq (w := w) (by kernel_rfl) _ _
  chk := fun em k w => run_checkKey_name em k w
  eq := fun a b w => run_equalIn_nameF 9997 a b w
  zero := fun w => Try.zeroValue3 w
  bits := bits_name
theorem keyNP : KeyOf Try.prog 64 54 24 N3.agg (.slice none 0 0) where
  und := Try.underlying64
  find := fun k es w => run_findKey_eq (w := w) (by kernel_rfl) _ _
  chk := fun em k w => run_checkKey_name em k w
  eq := fun a b w => run_equalIn_nameF 9997 a b w
  zero := fun w => Try.zeroValue24 w
  bits := bits_name
theorem keyDI : KeyOf Try.prog 60 40 3 D2.agg (.int .i64 0) where
  und := Try.underlying60
  find := fun k es w => run_findKey_eq (w := w) (by kernel_rfl) _ _
  chk := fun em k w => run_checkKey_dotN em 9998 k w
  eq := fun a b w => run_equalIn_dotF 9998 a b w
  zero := fun w => Try.zeroValue3 w
  bits := bits_dot
end Go.Proofs.Ytlgpijdemfccaaa

