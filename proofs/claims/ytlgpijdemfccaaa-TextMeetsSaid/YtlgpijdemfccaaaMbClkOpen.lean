/- Layer 4: stamps that came in, and what they were read as; '==' of two stamps as one equation. -/
import Derived.Test.YtlgpijdemfccaaaMbRowOpen
import Derived.Test.YtlgpijdemfccaaaMbClkMem
import Derived.Test.YtlgpijdemfccaaaMbMem2
namespace Go.Proofs.Ytlgpijdemfccaaa
set_option maxRecDepth 100000
open Go.ChangeShapes Go.WideShapes Go.ChangeAt Go.RowKit

def S3.wf (x : S3) : Prop := (-9223372036854775808 ≤ x.t ∧ x.t ≤ 9223372036854775807) ∧ (-9223372036854775808 ≤ x.d ∧ x.d ≤ 9223372036854775807) ∧ (-9223372036854775808 ≤ x.q ∧ x.q ≤ 9223372036854775807)
theorem Try.cellsI4 : Try.prog.cellsOf 3 = 1 := by kernel_rfl
theorem Try.cellsS4 : Try.prog.cellsOf 37 = 3 := by kernel_rfl

theorem stamp_cells {H : Type} {enc : TypeId × Value → H} {W : World} (n : Nat) (cs : List Value) (r) (h : DataW.trod enc Try.prog W 0 (fun _ => true) true n 37 cs = some r) : ∃ x : S3, cs = x.cells ∧ x.wf := by
  obtain ⟨y0, y1, y2, m, _, hl, h0, h1, h2⟩ := Go.Deep.trod_struct3 Try.underlying37 h
  rw [Try.cellsS4] at hl
  match cs, hl with
  | [a, b, c], _ =>
    simp only [Try.cellsI4] at h0 h1 h2
    obtain ⟨k, e0, _, w0⟩ := DataW.trod_int Try.underlying3 h0
    obtain ⟨n', e1, _, w1⟩ := DataW.trod_int Try.underlying3 h1
    obtain ⟨s, e2, _, w2⟩ := DataW.trod_int Try.underlying3 h2
    simp at e0 e1 e2
    subst e0 e1 e2
    exact ⟨⟨k, n', s⟩, rfl, wf_i64 w0, wf_i64 w1, wf_i64 w2⟩

theorem open_stamp {H : Type} {enc : TypeId × Value → H} {W : World} {base : Nat} {v : Value} {d : DataW H} {ps : List MemPlace} (hval : Value.okWide Try.prog W .any base 37 v) (h : DataW.Trod enc Try.prog W 0 (fun _ => true) true 37 v d ps) :
    ∃ x : S3, v = x.agg ∧ x.wf := by
  obtain ⟨x0, y0, z0, dx0, dy0, dz0, m0, rfl, _, _, tx0, ty0, tz0⟩ := Go.Joins.open_agg3 Try.underlying37 (by kernel_rfl) (by kernel_rfl) hval h
  obtain ⟨k, ek, _, wk⟩ := DataW.trod_int Try.underlying3 tx0
  obtain ⟨n, en, _, wn⟩ := DataW.trod_int Try.underlying3 ty0
  obtain ⟨s, es, _, ws⟩ := DataW.trod_int Try.underlying3 tz0
  obtain rfl := List.singleton_inj.1 ek
  obtain rfl := List.singleton_inj.1 en
  obtain rfl := List.singleton_inj.1 es
  exact ⟨⟨k, n, s⟩, rfl, wf_i64 wk, wf_i64 wn, wf_i64 ws⟩

theorem fieldsStamp : (Try.prog.fieldsOf 37).toList = [{ name := "Time", type := 3, offset := 0, embedded := false, tag := "", pkgPath := "", byteOffset := 0 }, { name := "Dev", type := 3, offset := 1, embedded := false, tag := "", pkgPath := "", byteOffset := 8 },
    { name := "Seq", type := 3, offset := 2, embedded := false, tag := "", pkgPath := "", byteOffset := 16 }] := by kernel_rfl

theorem run_equalIn_stamp (a b c x y z : Int) (W : World) :
    (Op.equalIn 10000 37 (.agg #[.int .i64 a, .int .i64 b, .int .i64 c]) (.agg #[.int .i64 x, .int .i64 y, .int .i64 z])).run Try.prog W = .ok (decide ((⟨a, b, c⟩ : S3) = ⟨x, y, z⟩)) W := by
  have ht : Try.prog.underlying 37 = some (.struct (Try.prog.fieldsOf 37)) := by kernel_rfl
  have hp : Try.prog.stoodInHeld 37 = false := by kernel_rfl
  have p0 : ∀ a b c : Value, (part 3 #[a, b, c] 0).run Try.prog W = .ok a W := fun _ _ _ => rfl
  have p1 : ∀ a b c : Value, (part 3 #[a, b, c] 1).run Try.prog W = .ok b W := fun _ _ _ => rfl
  have p2 : ∀ a b c : Value, (part 3 #[a, b, c] 2).run Try.prog W = .ok c W := fun _ _ _ => rfl
  have q0 : ∀ a b : Int, (Op.equalIn 9999 3 (.int .i64 a) (.int .i64 b)).run Try.prog W = .ok (a == b) W := fun a b => run_equalIn_int W 9998 _ _ _ a b Try.underlying3
  rw [show (10000 : Nat) = 9999 + 1 from rfl, run_equalIn_struct W 9999 _ _ _ ht hp, fieldsStamp]
  generalize hP : Try.prog = P at p0 p1 p2 q0 ⊢
  simp only [Op.eqFields]
  rw [if_pos (by decide), if_pos (by decide), if_pos (by decide)]
  simp only [Sem.run_bind, p0, q0, Result.andThen]
  rcases Decidable.em (a = x) with rfl | hk <;> rcases Decidable.em (b = y) with rfl | hn <;> rcases Decidable.em (c = z) with rfl | hs
  all_goals simp [*, Sem.run_bind, Result.andThen]
end Go.Proofs.Ytlgpijdemfccaaa

