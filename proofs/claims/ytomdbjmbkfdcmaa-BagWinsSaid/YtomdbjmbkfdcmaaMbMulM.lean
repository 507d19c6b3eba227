/- Several texts laid together: MulMap, MulClos. -/
import Derived.Test.YtomdbjmbkfdcmaaMbMul
import Derived.WideKeyRuns
import Derived.MapKept
namespace Go.Proofs.Ytomdbjmbkfdcmaa
set_option maxRecDepth 100000
open Go.RowKit Go.MapKept

/-- the map in block g has just the dots that ds tells, each with true -/
def MapD (w : World) (g : Nat) (ds : D2 → Bool) : Prop :=
  ∃ es clock, w.heap[g]? = some (.map es clock) ∧ (∀ e ∈ es.toList, (∃ d : D2, e.key = d.agg) ∧ e.val = .bool true) ∧ ∀ d : D2, ds d = true ↔ ∃ e ∈ es.toList, e.key = d.agg

theorem MapD.lt {w : World} {g : Nat} {ds : D2 → Bool} (h : MapD w g ds) : g < w.heap.size := by
  obtain ⟨es, clock, hb, _⟩ := h
  exact (Array.getElem?_eq_some_iff.1 hb).1
theorem MapD.below {w w' : World} {g : Nat} {ds : D2 → Bool} (h : MapD w g ds) (b : Below w.heap.size w w') : MapD w' g ds := by
  have hlt := h.lt
  obtain ⟨es, clock, hb, h1, h2⟩ := h
  exact ⟨es, clock, by rw [b.block g hlt]; exact hb, h1, h2⟩

theorem agg_inj {a b : D2} (h : a.agg = b.agg) : a = b := by
  obtain ⟨a1, a2⟩ := a; obtain ⟨b1, b2⟩ := b
  simp only [D2.agg, Value.agg.injEq, Array.mk.injEq, List.cons.injEq, Value.int.injEq, true_and, and_true] at h
  rw [h.1, h.2]

theorem run_checkKey_dot (em : Bool) (d : D2) (w : World) : (Instr.checkKey em 10000 28 d.agg).run Try.prog w = .ok () w := by
  obtain ⟨a, b⟩ := d
  have ht : Try.prog.underlying 28 = some (.struct (Try.prog.fieldsOf 28)) := by kernel_rfl
  have p0 : ∀ a b : Value, (part 3 #[a, b] 0).run Try.prog w = .ok a w := fun _ _ => rfl
  have p1 : ∀ a b : Value, (part 3 #[a, b] 1).run Try.prog w = .ok b w := fun _ _ => rfl
  have q0 : ∀ x : Int, (Instr.checkKey em 9999 3 (.int .i64 x)).run Try.prog w = .ok () w := fun x => run_checkKey (d := .int .i64) (k := .int .i64 x) Try.underlying3 (show IntKind.i64 = IntKind.i64 from rfl) em 9998
  rw [show (10000 : Nat) = 9999 + 1 from rfl]
  unfold Instr.checkKey
  simp only [Sem.run_bind, run_underlying ht, Result.andThen_ok]
  have hf := fieldsDot
  obtain ⟨fs, hfs⟩ : ∃ fs, Try.prog.fieldsOf 28 = fs := ⟨_, rfl⟩
  rw [hfs] at hf ⊢
  cases fs with
  | mk l =>
    simp only at hf
    subst hf
    simp [Sem.run_bind, p0, p1, q0, Result.andThen]

theorem run_asking (d : D2) (w : World) : ∀ (es : List MapEntry) (i : Nat), (∀ e ∈ es, (∃ d : D2, e.key = d.agg) ∧ e.val = .bool true) →
    ∃ r, (Instr.findAsking 28 d.agg es i).run Try.prog w = .ok r w ∧ ((r = none ∧ ¬ ∃ e ∈ es, e.key = d.agg) ∨ ∃ j e, r = some (i + j, .bool true) ∧ es[j]? = some e ∧ e.key = d.agg)
  | [], i, _ => ⟨none, by simp [Instr.findAsking], .inl ⟨rfl, by simp⟩⟩
  | e :: es, i, h => by
    obtain ⟨⟨x, hx⟩, hv⟩ := h e (.head _)
    have hq : (Op.equal 28 d.agg x.agg).run Try.prog w = .ok (decide (d = x)) w := run_equalIn_dotF 9998 d x w
    unfold Instr.findAsking
    rw [hx]
    simp only [Sem.run_bind, hq, Result.andThen_ok]
    by_cases hd : d = x
    · subst hd
      refine ⟨some (i, .bool true), by simp [hv], .inr ⟨0, e, rfl, rfl, hx⟩⟩
    · obtain ⟨r, hr, h2⟩ := run_asking d w es (i + 1) (fun e he => h e (.tail _ he))
      refine ⟨r, by simp [hd, hr], ?_⟩
      rcases h2 with ⟨h3, h4⟩ | ⟨j, e', h3, h4, h5⟩
      · refine .inl ⟨h3, ?_⟩
        rintro ⟨e', he', hk⟩
        cases he' with
        | head => rw [hx] at hk; exact hd (agg_inj hk).symm
        | tail _ he' => exact h4 ⟨e', he', hk⟩
      · exact .inr ⟨j + 1, e', by rw [h3]; simp; omega, by simpa using h4, h5⟩

theorem run_findKey_dot (d : D2) (w : World) (es : List MapEntry) (h : ∀ e ∈ es, (∃ d : D2, e.key = d.agg) ∧ e.val = .bool true) :
    ∃ r, (Instr.findKey 28 d.agg es).run Try.prog w = .ok r w ∧ ((r = none ∧ ¬ ∃ e ∈ es, e.key = d.agg) ∨ ∃ j e, r = some (j, .bool true) ∧ es[j]? = some e ∧ e.key = d.agg) := by
  obtain ⟨r, hr, h2⟩ := run_asking d w es 0 h
  refine ⟨r, by rw [run_findKey_eq w (by kernel_rfl)]; exact hr, ?_⟩
  simpa using h2

theorem run_look_dot {w : World} {g : Nat} {ds : D2 → Bool} (h : MapD w g ds) (d : D2) :
    (Instr.lookup 104 (.map (some g)) d.agg false).run Try.prog w = .ok (.bool (ds d)) w := by
  obtain ⟨es, clock, hb, h1, h2⟩ := h
  obtain ⟨r, hr, h3⟩ := run_findKey_dot d w es.toList h1
  have hz := Try.zeroValue4 w
  rcases h3 with ⟨rfl, h4⟩ | ⟨j, e, rfl, h4, h5⟩
  · have hd : ds d = false := by
      rcases hq : ds d with _ | _
      · rfl
      · exact absurd ((h2 d).1 hq) h4
    simp [Instr.lookup, run_underlying Try.underlying104, Go.MapKept.run_getObj_map hb, run_checkKey_dot, hr, hz, hd, Result.andThen]
  · have hd : ds d = true := (h2 d).2 ⟨e, List.mem_of_getElem? h4, h5⟩
    simp [Instr.lookup, run_underlying Try.underlying104, Go.MapKept.run_getObj_map hb, run_checkKey_dot, hr, hd, Result.andThen]

theorem same_bits (d : D2) : Instr.sameBits 10000 d.agg d.agg = true := by
  obtain ⟨a, b⟩ := d
  rw [show (10000 : Nat) = 9999 + 1 from rfl]
  simp [Instr.sameBits]

theorem run_put_dot {w : World} {g : Nat} {ds : D2 → Bool} (h : MapD w g ds) (d : D2) :
    ∃ w', (Instr.mapUpdate 104 (.map (some g)) d.agg (.bool true)).run Try.prog w = .ok () w' ∧ MapD w' g (fun x => ds x || decide (x = d)) ∧ Below g w w' ∧ w'.heap.size = w.heap.size := by
  obtain ⟨es, clock, hb, h1, h2⟩ := h
  obtain ⟨r, hr, h3⟩ := run_findKey_dot d w es.toList h1
  have hbel : ∀ o : Obj, Below g w { w with heap := w.heap.setIfInBounds g o } := fun o => ⟨rfl, rfl, rfl, by simp, fun k hk => (heap_set hb).2 k (by omega)⟩
  rcases h3 with ⟨rfl, h4⟩ | ⟨j, e, rfl, h4, h5⟩
  · refine ⟨{ w with heap := w.heap.setIfInBounds g (.map (es.push { key := d.agg, val := .bool true, born := clock }) (clock + 1)) }, ?_, ⟨_, _, (heap_set hb).1, ?_, ?_⟩, hbel _, by simp⟩
    · simp [Instr.mapUpdate, run_underlying Try.underlying104, Go.MapKept.run_getObj_map hb, run_checkKey_dot, hr, Go.MapKept.run_setObj_map _ hb, Result.andThen]
    · intro e he
      rw [Array.toList_push, List.mem_append, List.mem_singleton] at he
      rcases he with he | rfl
      · exact h1 e he
      · exact ⟨⟨d, rfl⟩, rfl⟩
    · intro x
      rw [Bool.or_eq_true, decide_eq_true_eq, h2 x, Array.toList_push]
      constructor
      · rintro (⟨e, he, hk⟩ | rfl)
        · exact ⟨e, List.mem_append_left _ he, hk⟩
        · exact ⟨_, List.mem_append_right _ (List.mem_singleton.2 rfl), rfl⟩
      · rintro ⟨e, he, hk⟩
        rcases List.mem_append.1 he with he | he
        · exact .inl ⟨e, he, hk⟩
        · rw [List.mem_singleton] at he
          subst he
          exact .inr (agg_inj hk).symm
  · have hj : es[j]? = some e := by rw [← Array.getElem?_toList]; exact h4
    have hd : ds d = true := (h2 d).2 ⟨e, List.mem_of_getElem? h4, h5⟩
    have hkey : (es.modify j fun e => { e with key := d.agg, val := .bool true }).toList = es.toList := by
      apply List.ext_getElem?
      intro i
      rw [Array.getElem?_toList, Array.getElem?_modify]
      by_cases hij : j = i
      · subst hij
        have hv := (h1 e (List.mem_of_getElem? h4)).2
        rw [if_pos rfl, hj, h4]
        simp only [Option.map_some, Option.some.injEq]
        rw [← h5, ← hv]
      · rw [if_neg hij, Array.getElem?_toList]
    refine ⟨{ w with heap := w.heap.setIfInBounds g (.map (es.modify j fun e => { e with key := d.agg, val := .bool true }) clock) }, ?_, ⟨_, _, (heap_set hb).1, ?_, ?_⟩, hbel _, by simp⟩
    · simp [Instr.mapUpdate, run_underlying Try.underlying104, Go.MapKept.run_getObj_map hb, run_checkKey_dot, hr, hj, h5, Instr.keyThatStays, same_bits, Go.MapKept.run_setObj_map _ hb, Result.andThen]
    · rw [hkey]; exact h1
    · intro x
      rw [hkey, ← h2 x, Bool.or_eq_true, decide_eq_true_eq]
      constructor
      · rintro (h | rfl)
        · exact h
        · exact hd
      · exact fun h => .inl h
end Go.Proofs.Ytomdbjmbkfdcmaa

namespace Go.Proofs.Ytomdbjmbkfdcmaa
set_option maxRecDepth 100000
open Go.RowKit

abbrev vecBox (A : Option Addr) (n c : Nat) : Obj := .cells #[.slice A n c] 33
theorem one_row {w : World} {g : Nat} {v : Value} {t : TypeId} (h : w.heap[g]? = some (.cells #[v] t)) : w.cell? ⟨g, 0, none⟩ = some v := by
  rw [cell_row h]; rfl

set_option maxHeartbeats 1600000 in
theorem write1_any (d : D2) (A : Option Addr) (n c : Nat) (kn : List Int) (gd gk : Nat) (w0 : World) (hd : w0.heap[gd]? = some (dotRow d)) (hk : w0.heap[gk]? = some (vecBox A n c)) (hr : Rd w0 A n c (vals .i64 kn)) :
    TellsP Try.prog 39 #[.pointer (some ⟨gd, 0, none⟩), .pointer (some ⟨gk, 0, none⟩)] (keptW d kn) w0 := by
  intro W hW x
  have B1 := below_new hW (partCells x)
  have hg := heap_alloc_new W (partCells x)
  obtain ⟨c0, c1, c2, c3, c4, c5, c6, c7, c8, c9, c10⟩ := part_row hg
  obtain ⟨d0, d1⟩ := dot_row (row_below hd B1)
  have k0 := one_row (row_below hk B1)
  have HQ := Lib.hid (vecHas_any A n c kn x.d.d x.d.s (W.alloc (partCells x)) (hr.below B1))
  have HB := Lib.hid (below_new (Below.refl W.heap.size W) (partCells x))
  have EQ := fun W2 => run_equalIn_dot x.d.d x.d.s d.d d.s W2
  clear hd hk hr hg
  rcases Decidable.em (x.d = d) with he | he
  · have HR : Hid (keptW d kn x = false) := by show _ = _; simp [keptW, he]
    rw [show (decide ((⟨x.d.d, x.d.s⟩ : D2) = ⟨d.d, d.s⟩)) = true from decide_eq_true he] at EQ
    rw [HR.out]
    clear he HQ
    go_enter Try.func39, Try.ntmps39
    go_wp2
    go_ret
    exact ⟨rfl, HB.out⟩
  · obtain ⟨r, hr⟩ : ∃ r, Hid (hasV kn x.d.d x.d.s = r) := ⟨_, rfl⟩
    have HR : Hid (keptW d kn x = !r) := by show _ = _; rw [← hr.out]; simp [keptW, he, knowsV]
    rw [show (decide ((⟨x.d.d, x.d.s⟩ : D2) = ⟨d.d, d.s⟩)) = false from decide_eq_false he] at EQ
    rw [HR.out]
    rw [hr.out] at HQ
    clear he
    go_enter Try.func39, Try.ntmps39
    go_wp2_with (go_at_call 40; refine HQ.out.mono ?_; rintro e w2 ⟨rfl, b2⟩)
    go_ret
    exact ⟨rfl, below_then HB.out b2⟩

set_option maxHeartbeats 1600000 in
theorem join1_any (ds : D2 → Bool) (A : Option Addr) (n c : Nat) (kn : List Int) (gm g gk : Nat) (w0 : World) (hm0 : w0.cell? ⟨gm, 0, none⟩ = some (.map (some g))) (hm : MapD w0 g ds) (hk : w0.heap[gk]? = some (vecBox A n c)) (hr : Rd w0 A n c (vals .i64 kn)) :
    TellsP Try.prog 74 #[.pointer (some ⟨gm, 0, none⟩), .pointer (some ⟨gk, 0, none⟩)] (fun p => ds p.d || !knowsV kn p.d) w0 := by
  intro W hW x
  have B1 := below_new hW (partCells x)
  have hg := heap_alloc_new W (partCells x)
  obtain ⟨c0, c1, c2, c3, c4, c5, c6, c7, c8, c9, c10⟩ := part_row hg
  have m0 := (B1.cell (p := ⟨gm, 0, none⟩) (block_lt_of_cell hm0)).trans hm0
  have k0 := one_row (row_below hk B1)
  have LK := run_look_dot (hm.below B1) x.d
  have HQ := Lib.hid (vecHas_any A n c kn x.d.d x.d.s (W.alloc (partCells x)) (hr.below B1))
  have HB := Lib.hid (below_new (Below.refl W.heap.size W) (partCells x))
  clear hm0 hm hk hr hg
  cases he : ds x.d with
  | true =>
    have HR : Hid ((ds x.d || !knowsV kn x.d) = true) := by show _ = _; simp [he]
    show Calls _ _ _ _ fun e W' => e = .returned (.bool (ds x.d || !knowsV kn x.d)) ∧ _
    rw [HR.out]
    rw [he] at LK
    clear he HQ HR
    go_enter Try.func74, Try.ntmps74
    go_wp2
    go_ret
    exact ⟨rfl, HB.out⟩
  | false =>
    obtain ⟨r, hr⟩ : ∃ r, Hid (hasV kn x.d.d x.d.s = r) := ⟨_, rfl⟩
    have HR : Hid ((ds x.d || !knowsV kn x.d) = !r) := by show _ = _; rw [← hr.out]; simp [knowsV, he]
    show Calls _ _ _ _ fun e W' => e = .returned (.bool (ds x.d || !knowsV kn x.d)) ∧ _
    rw [HR.out]
    rw [he] at LK
    rw [hr.out] at HQ
    clear he HR
    go_enter Try.func74, Try.ntmps74
    go_wp2_with (go_at_call 40; refine HQ.out.mono ?_; rintro e w2 ⟨rfl, b2⟩)
    go_ret
    exact ⟨rfl, below_then HB.out b2⟩

set_option maxHeartbeats 1600000 in
theorem join2_any (ds : D2 → Bool) (A : Option Addr) (n c : Nat) (kn : List Int) (gm g gk : Nat) (w0 : World) (hm0 : w0.cell? ⟨gm, 0, none⟩ = some (.map (some g))) (hm : MapD w0 g ds) (hk : w0.heap[gk]? = some (vecBox A n c)) (hr : Rd w0 A n c (vals .i64 kn)) :
    TellsP Try.prog 75 #[.pointer (some ⟨gm, 0, none⟩), .pointer (some ⟨gk, 0, none⟩)] (fun p => !ds p.d && !knowsV kn p.d) w0 := by
  intro W hW x
  have B1 := below_new hW (partCells x)
  have hg := heap_alloc_new W (partCells x)
  obtain ⟨c0, c1, c2, c3, c4, c5, c6, c7, c8, c9, c10⟩ := part_row hg
  have m0 := (B1.cell (p := ⟨gm, 0, none⟩) (block_lt_of_cell hm0)).trans hm0
  have k0 := one_row (row_below hk B1)
  have LK := run_look_dot (hm.below B1) x.d
  have HQ := Lib.hid (vecHas_any A n c kn x.d.d x.d.s (W.alloc (partCells x)) (hr.below B1))
  have HB := Lib.hid (below_new (Below.refl W.heap.size W) (partCells x))
  clear hm0 hm hk hr hg
  cases he : ds x.d with
  | true =>
    have HR : Hid ((!ds x.d && !knowsV kn x.d) = false) := by show _ = _; simp [he]
    show Calls _ _ _ _ fun e W' => e = .returned (.bool (!ds x.d && !knowsV kn x.d)) ∧ _
    rw [HR.out]
    rw [he] at LK
    clear he HQ HR
    go_enter Try.func75, Try.ntmps75
    go_wp2
    go_ret
    exact ⟨rfl, HB.out⟩
  | false =>
    obtain ⟨r, hr⟩ : ∃ r, Hid (hasV kn x.d.d x.d.s = r) := ⟨_, rfl⟩
    have HR : Hid ((!ds x.d && !knowsV kn x.d) = !r) := by show _ = _; rw [← hr.out]; simp [knowsV, he]
    show Calls _ _ _ _ fun e W' => e = .returned (.bool (!ds x.d && !knowsV kn x.d)) ∧ _
    rw [HR.out]
    rw [he] at LK
    rw [hr.out] at HQ
    clear he HR
    go_enter Try.func75, Try.ntmps75
    go_wp2_with (go_at_call 40; refine HQ.out.mono ?_; rintro e w2 ⟨rfl, b2⟩)
    go_ret
    exact ⟨rfl, below_then HB.out b2⟩

set_option maxHeartbeats 1600000 in
theorem place1_any (d : D2) (gd : Nat) (w0 : World) (hd : w0.heap[gd]? = some (dotRow d)) :
    TellsP Try.prog 85 #[.pointer (some ⟨gd, 0, none⟩)] (fun p => aboveD p.d d) w0 := by
  intro W hW x
  have B1 := below_new hW (partCells x)
  have hg := heap_alloc_new W (partCells x)
  obtain ⟨c0, c1, c2, c3, c4, c5, c6, c7, c8, c9, c10⟩ := part_row hg
  obtain ⟨d0, d1⟩ := dot_row (row_below hd B1)
  obtain ⟨r, hr, C⟩ : ∃ r, Hid (cmpD x.d d = r) ∧ Hid (Calls Try.prog 32 #[x.d.agg, d.agg] (W.alloc (partCells x)) fun e w' => e = .returned (.int .i64 r) ∧ Grown (W.alloc (partCells x)) w') := ⟨_, rfl, compare_any x.d d _⟩
  have HR : Hid (aboveD x.d d = decide (0 < r)) := by show _ = _; rw [← hr.out, cmpD_gt]
  have HB := Lib.hid (below_new (Below.refl W.heap.size W) (partCells x))
  show Calls _ _ _ _ fun e W' => e = .returned (.bool (aboveD x.d d)) ∧ _
  rw [HR.out]
  clear hd hg
  go_enter Try.func85, Try.ntmps85
  go_wp2_with (go_at_call 32; refine C.out.mono ?_; rintro e w2 ⟨rfl, b2⟩)
  go_ret
  exact ⟨rfl, below_then HB.out b2.below⟩

set_option maxHeartbeats 1600000 in
theorem join3_any (x y : P11) (W : World) : Calls Try.prog 76 #[x.agg, y.agg] W fun e W' => e = .returned (.int .i64 (cmpD x.d y.d)) ∧ Grown W W' := by
  have HB := Lib.hid (((Grown.refl W).alloc (partCells x)).alloc (partCells y))
  have hA := part_row (show ((W.alloc (partCells x)).alloc (partCells y)).heap[W.heap.size]? = some (partCells x) by rw [Below.heap_alloc _ _ _ (by simp)]; exact heap_alloc_new _ _)
  have hB := part_row (show ((W.alloc (partCells x)).alloc (partCells y)).heap[W.heap.size + 1]? = some (partCells y) by
    have := heap_alloc_new (W.alloc (partCells x)) (partCells y)
    rwa [World.size_alloc] at this)
  obtain ⟨c0, c1, c2, c3, c4, c5, c6, c7, c8, c9, c10⟩ := hA
  obtain ⟨d0, d1, d2, d3, d4, d5, d6, d7, d8, d9, d10⟩ := hB
  have C := Lib.hid (compare_any x.d y.d ((W.alloc (partCells x)).alloc (partCells y)))
  go_enter Try.func76, Try.ntmps76
  go_wp2_with (go_at_call 32; refine C.out.mono ?_; rintro e w2 ⟨rfl, b2⟩)
  go_ret
  exact ⟨rfl, HB.out.trans b2⟩
end Go.Proofs.Ytomdbjmbkfdcmaa

