/- Layer 9: a map of the call's own whose keys are what parts go by: stores, look-ups; '==' of two of them. -/
import Derived.Test.YtomdbjmbkfdcmaaMbBagCmp
import Derived.Test.YtomdbjmbkfdcmaaMbMulM
namespace Go.Proofs.Ytomdbjmbkfdcmaa
set_option maxRecDepth 100000
open Go.RowKit Go.MapKept

theorem fieldsSpot : (Try.prog.fieldsOf 70).toList = [{ name := "n", type := 3, offset := 0, embedded := false, tag := "", pkgPath := "homestead/bag", byteOffset := 0 }, { name := "dot", type := 28, offset := 1, embedded := false, tag := "", pkgPath := "homestead/bag", byteOffset := 8 }] := by kernel_rfl

theorem sp_is (n a b m x y : Int) : decide ((⟨n, ⟨a, b⟩⟩ : Sp) = ⟨m, ⟨x, y⟩⟩) = ((n == m) && decide ((⟨a, b⟩ : D2) = ⟨x, y⟩)) := by
  refine Bool.eq_iff_iff.2 ?_
  simp
theorem run_equalIn_spotF (f : Nat) (a b : Sp) (W : World) :
    (Op.equalIn (f + 3) 70 a.agg b.agg).run Try.prog W = .ok (decide (a = b)) W := by
  obtain ⟨n, a1, a2⟩ := a; obtain ⟨m, x, y⟩ := b
  rw [sp_is]
  have ht : Try.prog.underlying 70 = some (.struct (Try.prog.fieldsOf 70)) := by kernel_rfl
  have hp : Try.prog.stoodInHeld 70 = false := by kernel_rfl
  have p0 : ∀ a b c : Value, (part 3 #[a, b, c] 0).run Try.prog W = .ok a W := fun _ _ _ => rfl
  have p1 : ∀ a b c : Value, (part 28 #[a, b, c] 1).run Try.prog W = .ok (.agg #[b, c]) W := fun _ _ _ => rfl
  have q0 : ∀ a b : Int, (Op.equalIn (f + 2) 3 (.int .i64 a) (.int .i64 b)).run Try.prog W = .ok (a == b) W := fun a b => run_equalIn_int W (f + 1) _ _ _ a b Try.underlying3
  have qd : ∀ a b x y, (Op.equalIn (f + 2) 28 (.agg #[.int .i64 a, .int .i64 b]) (.agg #[.int .i64 x, .int .i64 y])).run Try.prog W = .ok (decide ((⟨a, b⟩ : D2) = ⟨x, y⟩)) W := fun a b x y => run_equalIn_dotF f ⟨a, b⟩ ⟨x, y⟩ W
  show (Op.equalIn (f + 2 + 1) _ _ _).run _ _ = _
  rw [Sp.agg, Sp.agg, run_equalIn_struct W (f + 2) _ _ _ ht hp, fieldsSpot]
  generalize hP : Try.prog = P at p0 p1 q0 qd ⊢
  simp only [Op.eqFields]
  rw [if_pos (by decide), if_pos (by decide)]
  have r1 := q0 n m
  have r2 := qd a1 a2 x y
  obtain ⟨b1, e1⟩ : ∃ b, b = (n == m) := ⟨_, rfl⟩
  obtain ⟨b2, e2⟩ : ∃ b, b = (decide ((⟨a1, a2⟩ : D2) = ⟨x, y⟩)) := ⟨_, rfl⟩
  rw [← e1] at r1 ⊢
  rw [← e2] at r2 ⊢
  clear e1 e2 q0 qd ht hp hP
  cases b1
  · simp [*, Sem.run_bind, Result.andThen]
  cases b2
  · simp [*, Sem.run_bind, Result.andThen]
  simp [*, Sem.run_bind, Result.andThen]

theorem aggQ_inj {a b : Sp} (h : a.agg = b.agg) : a = b := by
  obtain ⟨n, a1, a2⟩ := a; obtain ⟨m, b1, b2⟩ := b
  simp only [Sp.agg, Value.agg.injEq, Array.mk.injEq, List.cons.injEq, Value.int.injEq, true_and, and_true] at h
  rw [h.1, h.2.1, h.2.2]

theorem run_checkKey_dot2 (em : Bool) (d : D2) (w : World) : (Instr.checkKey em 9999 28 d.agg).run Try.prog w = .ok () w := by
  obtain ⟨a, b⟩ := d
  have ht : Try.prog.underlying 28 = some (.struct (Try.prog.fieldsOf 28)) := by kernel_rfl
  have p0 : ∀ a b : Value, (part 3 #[a, b] 0).run Try.prog w = .ok a w := fun _ _ => rfl
  have p1 : ∀ a b : Value, (part 3 #[a, b] 1).run Try.prog w = .ok b w := fun _ _ => rfl
  have q0 : ∀ x : Int, (Instr.checkKey em 9998 3 (.int .i64 x)).run Try.prog w = .ok () w := fun x => run_checkKey (d := .int .i64) (k := .int .i64 x) Try.underlying3 (show IntKind.i64 = IntKind.i64 from rfl) em 9997
  rw [show (9999 : Nat) = 9998 + 1 from rfl]
  unfold Instr.checkKey
  simp only [Sem.run_bind, run_underlying ht, Result.andThen_ok]
  have hf := fieldsDot
  obtain ⟨fs, hfs⟩ : ∃ fs, Try.prog.fieldsOf 28 = fs := ⟨_, rfl⟩
  rw [hfs] at hf ⊢
  cases fs with
  | mk l =>
    simp only at hf
    subst hf
    simp [Sem.run_bind, p0, p1, q0, Result.andThen]

theorem run_checkKey_spot (em : Bool) (d : Sp) (w : World) : (Instr.checkKey em 10000 70 d.agg).run Try.prog w = .ok () w := by
  obtain ⟨n, a, b⟩ := d
  have ht : Try.prog.underlying 70 = some (.struct (Try.prog.fieldsOf 70)) := by kernel_rfl
  have p0 : ∀ a b c : Value, (part 3 #[a, b, c] 0).run Try.prog w = .ok a w := fun _ _ _ => rfl
  have p1 : ∀ a b c : Value, (part 28 #[a, b, c] 1).run Try.prog w = .ok (.agg #[b, c]) w := fun _ _ _ => rfl
  have q0 : ∀ x : Int, (Instr.checkKey em 9999 3 (.int .i64 x)).run Try.prog w = .ok () w := fun x => run_checkKey (d := .int .i64) (k := .int .i64 x) Try.underlying3 (show IntKind.i64 = IntKind.i64 from rfl) em 9998
  have q1 : ∀ x y : Int, (Instr.checkKey em 9999 28 (.agg #[.int .i64 x, .int .i64 y])).run Try.prog w = .ok () w := fun x y => run_checkKey_dot2 em ⟨x, y⟩ w
  rw [show (10000 : Nat) = 9999 + 1 from rfl]
  unfold Instr.checkKey
  simp only [Sem.run_bind, run_underlying ht, Result.andThen_ok]
  have hf := fieldsSpot
  obtain ⟨fs, hfs⟩ : ∃ fs, Try.prog.fieldsOf 70 = fs := ⟨_, rfl⟩
  rw [hfs] at hf ⊢
  cases fs with
  | mk l =>
    simp only at hf
    subst hf
    simp [Sem.run_bind, p0, p1, q0, q1, Result.andThen]

/-- the map in block g has just the dots that ds tells, each with true -/
def MapQ (w : World) (g : Nat) (ds : Sp → Bool) : Prop :=
  ∃ es clock, w.heap[g]? = some (.map es clock) ∧ (∀ e ∈ es.toList, (∃ d : Sp, e.key = d.agg) ∧ e.val = .bool true) ∧ ∀ d : Sp, ds d = true ↔ ∃ e ∈ es.toList, e.key = d.agg

theorem MapQ.lt {w : World} {g : Nat} {ds : Sp → Bool} (h : MapQ w g ds) : g < w.heap.size := by
  obtain ⟨es, clock, hb, _⟩ := h
  exact (Array.getElem?_eq_some_iff.1 hb).1
theorem MapQ.below {w w' : World} {g : Nat} {ds : Sp → Bool} (h : MapQ w g ds) (b : Below w.heap.size w w') : MapQ w' g ds := by
  have hlt := h.lt
  obtain ⟨es, clock, hb, h1, h2⟩ := h
  exact ⟨es, clock, by rw [b.block g hlt]; exact hb, h1, h2⟩

theorem run_askingQ (d : Sp) (w : World) : ∀ (es : List MapEntry) (i : Nat), (∀ e ∈ es, (∃ d : Sp, e.key = d.agg) ∧ e.val = .bool true) →
    ∃ r, (Instr.findAsking 70 d.agg es i).run Try.prog w = .ok r w ∧ ((r = none ∧ ¬ ∃ e ∈ es, e.key = d.agg) ∨ ∃ j e, r = some (i + j, .bool true) ∧ es[j]? = some e ∧ e.key = d.agg)
  | [], i, _ => ⟨none, by simp [Instr.findAsking], .inl ⟨rfl, by simp⟩⟩
  | e :: es, i, h => by
    obtain ⟨⟨x, hx⟩, hv⟩ := h e (.head _)
    have hq : (Op.equal 70 d.agg x.agg).run Try.prog w = .ok (decide (d = x)) w := run_equalIn_spotF 9997 d x w
    unfold Instr.findAsking
    rw [hx]
    simp only [Sem.run_bind, hq, Result.andThen_ok]
    by_cases hd : d = x
    · subst hd
      refine ⟨some (i, .bool true), by simp [hv], .inr ⟨0, e, rfl, rfl, hx⟩⟩
    · obtain ⟨r, hr, h2⟩ := run_askingQ d w es (i + 1) (fun e he => h e (.tail _ he))
      refine ⟨r, by simp [hd, hr], ?_⟩
      rcases h2 with ⟨h3, h4⟩ | ⟨j, e', h3, h4, h5⟩
      · refine .inl ⟨h3, ?_⟩
        rintro ⟨e', he', hk⟩
        cases he' with
        | head => rw [hx] at hk; exact hd (aggQ_inj hk).symm
        | tail _ he' => exact h4 ⟨e', he', hk⟩
      · exact .inr ⟨j + 1, e', by rw [h3]; simp; omega, by simpa using h4, h5⟩

theorem run_findKey_spot (d : Sp) (w : World) (es : List MapEntry) (h : ∀ e ∈ es, (∃ d : Sp, e.key = d.agg) ∧ e.val = .bool true) :
    ∃ r, (Instr.findKey 70 d.agg es).run Try.prog w = .ok r w ∧ ((r = none ∧ ¬ ∃ e ∈ es, e.key = d.agg) ∨ ∃ j e, r = some (j, .bool true) ∧ es[j]? = some e ∧ e.key = d.agg) := by
  obtain ⟨r, hr, h2⟩ := run_askingQ d w es 0 h
  refine ⟨r, by rw [run_findKey_eq w (by kernel_rfl)]; exact hr, ?_⟩
  simpa using h2

theorem run_look_spot {w : World} {g : Nat} {ds : Sp → Bool} (h : MapQ w g ds) (d : Sp) :
    (Instr.lookup 74 (.map (some g)) d.agg false).run Try.prog w = .ok (.bool (ds d)) w := by
  obtain ⟨es, clock, hb, h1, h2⟩ := h
  obtain ⟨r, hr, h3⟩ := run_findKey_spot d w es.toList h1
  have hz := Try.zeroValue4 w
  rcases h3 with ⟨rfl, h4⟩ | ⟨j, e, rfl, h4, h5⟩
  · have hd : ds d = false := by
      rcases hq : ds d with _ | _
      · rfl
      · exact absurd ((h2 d).1 hq) h4
    simp [Instr.lookup, run_underlying Try.underlying74, Go.MapKept.run_getObj_map hb, run_checkKey_spot, hr, hz, hd, Result.andThen]
  · have hd : ds d = true := (h2 d).2 ⟨e, List.mem_of_getElem? h4, h5⟩
    simp [Instr.lookup, run_underlying Try.underlying74, Go.MapKept.run_getObj_map hb, run_checkKey_spot, hr, hd, Result.andThen]

theorem same_bitsQ (d : Sp) : Instr.sameBits 10000 d.agg d.agg = true := by
  obtain ⟨n, a, b⟩ := d
  rw [show (10000 : Nat) = 9999 + 1 from rfl]
  simp [Instr.sameBits]

theorem run_put_spot {w : World} {g : Nat} {ds : Sp → Bool} (h : MapQ w g ds) (d : Sp) :
    ∃ w', (Instr.mapUpdate 74 (.map (some g)) d.agg (.bool true)).run Try.prog w = .ok () w' ∧ MapQ w' g (fun x => ds x || decide (x = d)) ∧ Below g w w' ∧ w'.heap.size = w.heap.size := by
  obtain ⟨es, clock, hb, h1, h2⟩ := h
  obtain ⟨r, hr, h3⟩ := run_findKey_spot d w es.toList h1
  have hbel : ∀ o : Obj, Below g w { w with heap := w.heap.setIfInBounds g o } := fun o => ⟨rfl, rfl, rfl, by simp, fun k hk => (heap_set hb).2 k (by omega)⟩
  rcases h3 with ⟨rfl, h4⟩ | ⟨j, e, rfl, h4, h5⟩
  · refine ⟨{ w with heap := w.heap.setIfInBounds g (.map (es.push { key := d.agg, val := .bool true, born := clock }) (clock + 1)) }, ?_, ⟨_, _, (heap_set hb).1, ?_, ?_⟩, hbel _, by simp⟩
    · simp [Instr.mapUpdate, run_underlying Try.underlying74, Go.MapKept.run_getObj_map hb, run_checkKey_spot, hr, Go.MapKept.run_setObj_map _ hb, Result.andThen]
    · intro e he
      rw [Array.toList_push, List.mem_append, List.mem_singleton] at he
      rcases he with he | rfl
      · exact h1 e he
      · exact ⟨⟨d, rfl⟩, rfl⟩
    · intro x
      rw [Bool.or_eq_true, decide_eq_true_eq, h2 x, Array.toList_push]
      constructor
      · rintro (⟨e, he, hk⟩ | rfl)
        · exact ⟨e, List.mem_append_left _ he, hk⟩
        · exact ⟨_, List.mem_append_right _ (List.mem_singleton.2 rfl), rfl⟩
      · rintro ⟨e, he, hk⟩
        rcases List.mem_append.1 he with he | he
        · exact .inl ⟨e, he, hk⟩
        · rw [List.mem_singleton] at he
          subst he
          exact .inr (aggQ_inj hk).symm
  · have hj : es[j]? = some e := by rw [← Array.getElem?_toList]; exact h4
    have hd : ds d = true := (h2 d).2 ⟨e, List.mem_of_getElem? h4, h5⟩
    have hkey : (es.modify j fun e => { e with key := d.agg, val := .bool true }).toList = es.toList := by
      apply List.ext_getElem?
      intro i
      rw [Array.getElem?_toList, Array.getElem?_modify]
      by_cases hij : j = i
      · subst hij
        have hv := (h1 e (List.mem_of_getElem? h4)).2
        rw [if_pos rfl, hj, h4]
        simp only [Option.map_some, Option.some.injEq]
        rw [← h5, ← hv]
      · rw [if_neg hij, Array.getElem?_toList]
    refine ⟨{ w with heap := w.heap.setIfInBounds g (.map (es.modify j fun e => { e with key := d.agg, val := .bool true }) clock) }, ?_, ⟨_, _, (heap_set hb).1, ?_, ?_⟩, hbel _, by simp⟩
    · simp [Instr.mapUpdate, run_underlying Try.underlying74, Go.MapKept.run_getObj_map hb, run_checkKey_spot, hr, hj, h5, Instr.keyThatStays, same_bitsQ, Go.MapKept.run_setObj_map _ hb, Result.andThen]
    · rw [hkey]; exact h1
    · intro x
      rw [hkey, ← h2 x, Bool.or_eq_true, decide_eq_true_eq]
      constructor
      · rintro (h | rfl)
        · exact h
        · exact hd
      · exact fun h => .inl h
end Go.Proofs.Ytomdbjmbkfdcmaa

