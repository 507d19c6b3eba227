/- Several texts laid together: MulPut, MulRefJoin, MulRefWrite, MulRight. -/
import Derived.Test.YtomdbjmbkfdcmaaMbMulRef
namespace Go.Proofs.Ytomdbjmbkfdcmaa
set_option maxRecDepth 100000
open Go.RowKit Srt

theorem insP_yes (x : P11) (u : List P11) : ∀ (t : List P11), (∃ p ∈ t, aboveD p.d x.d = true) → insP (t ++ u) x = insP t x ++ u
  | [], h => by obtain ⟨p, hp, _⟩ := h; simp at hp
  | p :: t, h => by
    rw [List.cons_append, insP_cons, insP_cons]
    split
    · rfl
    · rename_i hn
      rw [insP_yes x u t ?_]
      · rfl
      · obtain ⟨q, hq, ha⟩ := h
        rcases List.mem_cons.1 hq with rfl | hq
        · exact absurd ha hn
        · exact ⟨q, hq, ha⟩
theorem insP_no (x : P11) (u : List P11) : ∀ (t : List P11), (∀ p ∈ t, aboveD p.d x.d = false) → insP (t ++ u) x = t ++ insP u x
  | [], _ => rfl
  | p :: t, h => by
    rw [List.cons_append, insP_cons, if_neg (by rw [h p (List.mem_cons_self ..)]; simp), insP_no x u t (fun q hq => h q (List.mem_cons_of_mem _ hq))]
    rfl

/-- how far a part is put in, behind k others -/
def Putting (t : List P11) (x : P11) (laid : Bool) (done : List P11) : Prop :=
  (laid = true ∧ done = insP t x ∧ ∃ p ∈ t, aboveD p.d x.d = true) ∨ (laid = false ∧ done = t ∧ ∀ p ∈ t, aboveD p.d x.d = false)
theorem Putting.start (x : P11) : Putting [] x false [] := .inr ⟨rfl, rfl, by simp⟩
theorem Putting.go {t done : List P11} {x y : P11} (h : Putting t x true done) : Putting (t ++ [y]) x true (done ++ [y]) := by
  rcases h with ⟨_, h2, h3⟩ | ⟨h1, _⟩
  · refine .inl ⟨rfl, by rw [insP_yes x [y] t h3, h2], ?_⟩
    obtain ⟨p, hp, ha⟩ := h3
    exact ⟨p, List.mem_append_left _ hp, ha⟩
  · cases h1
theorem Putting.lay {t done : List P11} {x y : P11} (h : Putting t x false done) (ha : aboveD y.d x.d = true) : Putting (t ++ [y]) x true (done ++ [x] ++ [y]) := by
  rcases h with ⟨h1, _⟩ | ⟨_, h2, h3⟩
  · cases h1
  · refine .inl ⟨rfl, ?_, y, by simp, ha⟩
    rw [insP_no x [y] t h3, insP_cons, if_pos ha, h2]; simp
theorem Putting.pass {t done : List P11} {x y : P11} (h : Putting t x false done) (ha : aboveD y.d x.d = false) : Putting (t ++ [y]) x false (done ++ [y]) := by
  rcases h with ⟨h1, _⟩ | ⟨_, h2, h3⟩
  · cases h1
  · refine .inr ⟨rfl, by rw [h2], fun p hp => ?_⟩
    rcases List.mem_append.1 hp with hp | hp
    · exact h3 p hp
    · rw [List.mem_singleton] at hp; subst hp; exact ha
theorem Putting.done_ {t done : List P11} {x : P11} (h : Putting t x true done) : done = insP t x := by
  rcases h with ⟨_, h2, _⟩ | ⟨h1, _⟩
  · exact h2
  · cases h1
theorem Putting.last {t done : List P11} {x : P11} (h : Putting t x false done) : done ++ [x] = insP t x := by
  rcases h with ⟨h1, _⟩ | ⟨_, h2, h3⟩
  · cases h1
  · have := insP_no x [] t h3
    rw [List.append_nil] at this
    rw [this, insP_nil, h2]
theorem Putting.len {t done : List P11} {x : P11} {b : Bool} (h : Putting t x b done) : done.length ≤ t.length + 1 := by
  rcases h with ⟨_, h2, _⟩ | ⟨_, h2, _⟩
  · rw [h2, insP_len]; omega
  · rw [h2]; omega
theorem take_snoc {α : Type} {l : List α} {k : Nat} {x : α} (h : l[k]? = some x) : l.take (k + 1) = l.take k ++ [x] := by
  rw [List.take_add_one, h]; rfl

/-- a part more, behind a row of the call's own: and all but the row is as it was -/
theorem wpList_pushP2 {w W0 : World} {ops : Array Oper} {rest : List Oper} {o : Oper} {a : Act} {Q : Exit → Act → World → Prop} (hgd : o.guard = none) (s x : Operand)
    (ho : o.op = .call { callee := .builtin .append, args := #[s, x], argTypes := #[24, 24] })
    (base : Nat) (v : Value) (n : Nat) (l : List P11) (u : P11) (g : Nat) (hg : w.heap.size = g) (hx : a.eval x = .slice (some ⟨g, 0, none⟩) 1 1)
    (hs : a.eval s = v) (hown : w.ownsRow base 30 11 v n (l.flatMap P11.cells)) (hn : n < 4294967296)
    (hbel : Below base W0 w) (hbase : base ≤ w.heap.size)
    (h : ∀ v' w', w'.ownsRow base 30 11 v' (n + 1) ((l ++ [u]).flatMap P11.cells) → Below base W0 w' → base ≤ w'.heap.size → (∀ k, k < w.heap.size → v.ownBlock ≠ some k → w'.heap[k]? = w.heap[k]?) → wpList Try.prog ops Q rest (a.put o.dst v') w') :
    wpList Try.prog ops Q (o :: rest) a (w.alloc (partCells u)) := by
  subst hg
  obtain ⟨i0, hi0, hz0, hz1, hz2⟩ := info_parts Try.infoPart
  refine wpList_append_own _ hgd s x 24 ho base 30 i0 _ 11 96 Try.underlying24 hi0 hz0 hz1 hz2 rfl (by omega) v n (l.flatMap P11.cells) hs (hown.alloc _) ⟨w.heap.size, 0, none⟩ 1 1 u.cells hx rfl ?_
    (p11one u) (by simp only [maxLen]; omega) (by omega) (by simp; omega) ?_
  · intro j y hj
    rw [Addr.add_lit, Nat.zero_add, cell_row (heap_alloc_new w _)]
    simpa [P11.cells] using hj
  intro v' w' hown' hgrow _
  refine h v' w' ?_ ?_ (by have := hgrow.size; simp at this; omega) ?_
  · rw [List.flatMap_append]
    simpa using hown'
  · exact (hbel.alloc hbase _).grown hgrow (by simp; omega) (fun k hk => (hown.lt k hk).1)
  · intro k hk hne
    rw [hgrow.block k (by simp; omega) (fun e => hne e.symm), Below.heap_alloc _ _ _ hk]

end Go.Proofs.Ytomdbjmbkfdcmaa

namespace Go.Proofs.Ytomdbjmbkfdcmaa
set_option maxRecDepth 100000
open Go.RowKit Srt

theorem foldl_ins_len (l : List P11) : ∀ d : List P11, (l.foldl insP d).length = d.length + l.length := by
  induction l with
  | nil => intro d; rfl
  | cons x l ih => intro d; rw [List.foldl_cons, ih, insP_len, List.length_cons]; omega

/-- the boxes of a call of the document's Join -/
def rjBoxes (ka : Int) (va : V3) (sa : Value) (kb : Int) (vb : V3) (sb : Value) (w : World) : World :=
  (((w.alloc (cellRow ka va sa)).alloc (cellRow kb vb sb)).alloc (cellRow 0 ⟨0, 0, ⟨#[]⟩⟩ (.slice none 0 0))).alloc (cellRow 1 ⟨0, 0, ⟨#[]⟩⟩ (.slice none 0 0))

theorem rjBoxes_is (ka : Int) (va : V3) (sa : Value) (kb : Int) (vb : V3) (sb : Value) (w : World) :
    (rjBoxes ka va sa kb vb sb w).heap.size = w.heap.size + 4 ∧ Below w.heap.size w (rjBoxes ka va sa kb vb sb w)
    ∧ (rjBoxes ka va sa kb vb sb w).heap[w.heap.size]? = some (cellRow ka va sa) ∧ (rjBoxes ka va sa kb vb sb w).heap[w.heap.size + 1]? = some (cellRow kb vb sb)
    ∧ (rjBoxes ka va sa kb vb sb w).heap[w.heap.size + 1 + 1]? = some (cellRow 0 ⟨0, 0, ⟨#[]⟩⟩ (.slice none 0 0)) ∧ (rjBoxes ka va sa kb vb sb w).heap[w.heap.size + 1 + 1 + 1]? = some (cellRow 1 ⟨0, 0, ⟨#[]⟩⟩ (.slice none 0 0)) := by
  have hat : ∀ (w : World) (o : Obj) (g : Nat), w.heap.size = g → (w.alloc o).heap[g]? = some o := fun w o g h => by subst h; exact heap_alloc_new _ _
  refine ⟨by simp [rjBoxes], ?_, ?_, ?_, ?_, ?_⟩
  · exact below_new (below_new (below_new (below_new (Below.refl _ _) _) _) _) _
  · rw [rjBoxes, Below.heap_alloc _ _ _ (by simp only [World.size_alloc]; omega), Below.heap_alloc _ _ _ (by simp only [World.size_alloc]; omega), Below.heap_alloc _ _ _ (by simp only [World.size_alloc]; omega)]; exact hat _ _ _ rfl
  · rw [rjBoxes, Below.heap_alloc _ _ _ (by simp only [World.size_alloc]; omega), Below.heap_alloc _ _ _ (by simp only [World.size_alloc]; omega)]; exact hat _ _ _ (by simp)
  · rw [rjBoxes, Below.heap_alloc _ _ _ (by simp)]; exact hat _ _ _ (by simp)
  · exact hat _ _ _ (by simp)

end Go.Proofs.Ytomdbjmbkfdcmaa

namespace Go.Proofs.Ytomdbjmbkfdcmaa
set_option maxRecDepth 100000
open Go.RowKit Srt

/-- the boxes of a call of the document's Write -/
def rwBoxes (k : Int) (v0 : V3) (s : Value) (v : V3) (d : D2) (w : World) : World :=
  ((((w.alloc (cellRow k v0 s)).alloc (valRow v)).alloc (dotRow d)).alloc (cellRow 0 ⟨0, 0, ⟨#[]⟩⟩ (.slice none 0 0))).alloc (cellRow k v0 (.slice none 0 0))
theorem rwBoxes_is (k : Int) (v0 : V3) (s : Value) (v : V3) (d : D2) (w : World) :
    (rwBoxes k v0 s v d w).heap.size = w.heap.size + 5 ∧ Below w.heap.size w (rwBoxes k v0 s v d w)
    ∧ (rwBoxes k v0 s v d w).heap[w.heap.size]? = some (cellRow k v0 s) ∧ (rwBoxes k v0 s v d w).heap[w.heap.size + 1]? = some (valRow v) ∧ (rwBoxes k v0 s v d w).heap[w.heap.size + 1 + 1]? = some (dotRow d)
    ∧ (rwBoxes k v0 s v d w).heap[w.heap.size + 1 + 1 + 1]? = some (cellRow 0 ⟨0, 0, ⟨#[]⟩⟩ (.slice none 0 0)) ∧ (rwBoxes k v0 s v d w).heap[w.heap.size + 1 + 1 + 1 + 1]? = some (cellRow k v0 (.slice none 0 0)) := by
  have hat : ∀ (w : World) (o : Obj) (g : Nat), w.heap.size = g → (w.alloc o).heap[g]? = some o := fun w o g h => by subst h; exact heap_alloc_new _ _
  refine ⟨by simp [rwBoxes], ?_, ?_, ?_, ?_, ?_, ?_⟩
  · exact below_new (below_new (below_new (below_new (below_new (Below.refl _ _) _) _) _) _) _
  · rw [rwBoxes, Below.heap_alloc _ _ _ (by simp only [World.size_alloc]; omega), Below.heap_alloc _ _ _ (by simp only [World.size_alloc]; omega), Below.heap_alloc _ _ _ (by simp only [World.size_alloc]; omega), Below.heap_alloc _ _ _ (by simp only [World.size_alloc]; omega)]; exact hat _ _ _ rfl
  · rw [rwBoxes, Below.heap_alloc _ _ _ (by simp only [World.size_alloc]; omega), Below.heap_alloc _ _ _ (by simp only [World.size_alloc]; omega), Below.heap_alloc _ _ _ (by simp only [World.size_alloc]; omega)]; exact hat _ _ _ (by simp)
  · rw [rwBoxes, Below.heap_alloc _ _ _ (by simp only [World.size_alloc]; omega), Below.heap_alloc _ _ _ (by simp only [World.size_alloc]; omega)]; exact hat _ _ _ (by simp)
  · rw [rwBoxes, Below.heap_alloc _ _ _ (by simp)]; exact hat _ _ _ (by simp)
  · exact hat _ _ _ (by simp)

/-- how the document's Write stands: its boxes, and what it has put out so far -/
structure OutW (ka : Int) (va : V3) (S : Value) (v : V3) (d : D2) (g4 g5 g6 g8 g9 B0 : Nat) (w0 : World) (A5 : Option Addr) (c5 : Nat) (done : List P11) (W : World) : Prop where
  o9 : W.heap[g9]? = some (cellRow ka va (.slice A5 done.length c5))
  o4 : W.heap[g4]? = some (cellRow ka va S)
  o5 : W.heap[g5]? = some (valRow v)
  o6 : W.heap[g6]? = some (dotRow d)
  o8 : W.heap[g8]? = some (cellRow 0 ⟨0, 0, ⟨#[]⟩⟩ (.slice none 0 0))
  own : W.ownsRow B0 30 11 (.slice A5 done.length c5) done.length (done.flatMap P11.cells)
  bel : Below w0.heap.size w0 W
  siz : B0 ≤ W.heap.size
structure OutG (g4 g5 g6 g8 g9 B0 : Nat) (w0 : World) : Prop where
  l4 : g4 < B0
  l5 : g5 < B0
  l6 : g6 < B0
  l8 : g8 < B0
  l9 : g9 < B0
  n4 : g4 ≠ g9
  n5 : g5 ≠ g9
  n6 : g6 ≠ g9
  n8 : g8 ≠ g9
  m9 : w0.heap.size ≤ g9
  m8 : w0.heap.size ≤ g8
  mB : w0.heap.size ≤ B0
theorem lt_of_row {w : World} {g : Nat} {o : Obj} (h : w.heap[g]? = some o) : g < w.heap.size := by
  rcases Nat.lt_or_ge g w.heap.size with h1 | h1
  · exact h1
  · rw [Array.getElem?_eq_none h1] at h; exact nomatch h
section
variable {ka : Int} {va : V3} {S : Value} {v : V3} {d : D2} {g4 g5 g6 g8 g9 B0 : Nat} {w0 : World} {A5 : Option Addr} {c5 : Nat} {done : List P11} {W W' : World}
theorem OutW.below (h : OutW ka va S v d g4 g5 g6 g8 g9 B0 w0 A5 c5 done W) (g : OutG g4 g5 g6 g8 g9 B0 w0) (hb : Below W.heap.size W W') : OutW ka va S v d g4 g5 g6 g8 g9 B0 w0 A5 c5 done W' where
  o9 := (hb.block g9 (Nat.lt_of_lt_of_le g.l9 h.siz)).trans h.o9
  o4 := (hb.block g4 (Nat.lt_of_lt_of_le g.l4 h.siz)).trans h.o4
  o5 := (hb.block g5 (Nat.lt_of_lt_of_le g.l5 h.siz)).trans h.o5
  o6 := (hb.block g6 (Nat.lt_of_lt_of_le g.l6 h.siz)).trans h.o6
  o8 := (hb.block g8 (Nat.lt_of_lt_of_le g.l8 h.siz)).trans h.o8
  own := own_below h.own hb
  bel := below_then h.bel hb
  siz := Nat.le_trans h.siz hb.size
theorem OutW.put (h : OutW ka va S v d g4 g5 g6 g8 g9 B0 w0 A5 c5 done W) (g : OutG g4 g5 g6 g8 g9 B0 w0) {A6 : Option Addr} {c6 : Nat} {t : P11} (hb : Below B0 W W') (hs : B0 ≤ W'.heap.size)
    (ho : W'.ownsRow B0 30 11 (.slice A6 (done.length + 1) c6) (done.length + 1) ((done ++ [t]).flatMap P11.cells)) : OutW ka va S v d g4 g5 g6 g8 g9 B0 w0 A6 c6 (done ++ [t]) (W'.setCell ⟨g9, 4, none⟩ (.slice A6 (done.length + 1) c6)) := by
  have hm : ∀ q, q ≠ g9 → q < B0 → (W'.setCell ⟨g9, 4, none⟩ (.slice A6 (done.length + 1) c6)).heap[q]? = W.heap[q]? := fun q hq hqb => by
    rw [← hb.block q hqb]
    show (W'.heap.modify g9 _)[q]? = _
    rw [Array.getElem?_modify, if_neg (fun e => hq e.symm)]
  have hl : (done ++ [t]).length = done.length + 1 := by simp
  have h9 := (hb.block g9 g.l9).trans h.o9
  refine ⟨?_, (hm g4 g.n4 g.l4).trans h.o4, (hm g5 g.n5 g.l5).trans h.o5, (hm g6 g.n6 g.l6).trans h.o6, (hm g8 g.n8 g.l8).trans h.o8, ?_, ?_, by rw [World.size_setCell]; exact hs⟩
  · rw [hl, set_row h9 4]; rfl
  · rw [hl]; exact own_set ho g9 4 _ g.l9
  · exact (h.bel.trans (hb.mono g.mB)).setCell g.m9 _
end

end Go.Proofs.Ytomdbjmbkfdcmaa

namespace Go.Proofs.Ytomdbjmbkfdcmaa
set_option maxRecDepth 100000
open Go.RowKit Srt

set_option maxHeartbeats 800000 in
theorem right_free (k n : Int) (s : ByteArray) (w : World) :
    Calls Try.prog 70 #[.agg #[.int .i64 k, .int .i64 n, .string s]] w fun e w' => e = .returned (.bool (rightZ k n s.size)) ∧ Below w.heap.size w w' := by
  go_enter Try.func70, Try.ntmps70
  go_wp2
  all_goals go_ret
  all_goals refine ⟨?_, by first | exact (Below.refl _ _).alloc (Nat.le_refl _) _ | exact below_drewN ((Below.refl _ _).alloc (Nat.le_refl _) _) _⟩
  all_goals try simp only [iem]
  all_goals rcases Decidable.em (-1099511627776 ≤ n) with hlo | hlo <;> rcases Decidable.em (n ≤ 1099511627776) with hhi | hhi
  all_goals
    by_cases hz : s = ByteArray.empty
    · subst hz
      simp_all [rightZ]
      try omega
    · have hz1 : (s.size == 0) = false := by simpa using fun h => hz (size_zero h)
      have hz4 : ¬ s.toList = [] := fun h => hz (size_zero (by have := iem s; rw [h] at this; simpa using this.symm))
      have hz3 : ¬ s.size = 0 := fun h => hz (size_zero h)
      simp_all [rightZ]
      try omega

theorem right_val (v : V3) (w : World) :
    Calls Try.prog 70 #[.agg #[.int .i64 v.k, .int .i64 v.n, .string v.s]] w fun e w' => e = .returned (.bool v.right) ∧ Below w.heap.size w w' :=
  right_free v.k v.n v.s w
set_option maxHeartbeats 1600000 in
theorem rightPart_any (p : P11) (w : World) :
    Calls Try.prog 31 #[p.agg] w fun e w' => e = .returned (.bool (okP p)) ∧ Below w.heap.size w w' := by
  have h0 : (w.alloc (partCells p)).heap[w.heap.size]? = some (partCells p) := heap_alloc_new _ _
  obtain ⟨x0, x1, x2, x3, x4, x5, x6, x7, x8, x9, x10⟩ := part_row h0
  have B := Lib.hid (below_new (Below.refl w.heap.size w) (partCells p))
  have EQ : ∀ W, (Op.equalIn 10000 30 (.agg #[.int .i64 p.v.k, .int .i64 p.v.n, .string p.v.s, .int .i64 p.d.d, .int .i64 p.d.s, .int .i64 p.i, .int .i64 p.t, .int .i64 p.a.d, .int .i64 p.a.s, .int .i64 p.j, .bool p.g])
      (.agg #[.int .i64 p.v.k, .int .i64 p.v.n, .string p.v.s, .int .i64 p.d.d, .int .i64 p.d.s, .int .i64 0, .int .i64 0, .int .i64 0, .int .i64 0, .int .i64 0, .bool false])).run Try.prog W = .ok (decide (p = part0 p.v p.d)) W := fun W => run_equalIn_part p (part0 p.v p.d) W
  obtain ⟨r, hr, C⟩ : ∃ r, Hid (p.v.right = r) ∧ Hid (Calls Try.prog 70 #[.agg #[.int .i64 p.v.k, .int .i64 p.v.n, .string p.v.s]] (w.alloc (partCells p)) fun e w' => e = .returned (.bool r) ∧ Below (w.alloc (partCells p)).heap.size (w.alloc (partCells p)) w') := ⟨_, rfl, right_val p.v _⟩
  have K := Lib.hid (fun W (b : Below (w.alloc (partCells p)).heap.size (w.alloc (partCells p)) W) => part_row (row_below h0 b))
  clear h0
  go_enter Try.func31, Try.ntmps31
  go_wp2_with fail
  all_goals first
    | (refine C.out.mono ?_
       rintro e w3 ⟨rfl, b3⟩
       obtain ⟨x0, x1, x2, x3, x4, x5, x6, x7, x8, x9, x10⟩ := K.out w3 b3
       have B3 := Lib.hid (below_then B.out b3)
       cases r
       all_goals go_wp2_with fail
       all_goals go_ret
       all_goals exact ⟨ret_bool (by simp [okP, hr.out, *]), B3.out⟩)
    | (go_ret
       exact ⟨ret_bool (by simp [okP, *] <;> (intros; omega)), B.out⟩)

theorem okP_bounds {p : P11} : okP p = true ↔ (((1 ≤ p.d.d ∧ p.d.d ≤ 64) ∧ (1 ≤ p.d.s ∧ p.d.s ≤ 1048576)) ∧ p.v.right = true) ∧ p = part0 p.v p.d := by
  simp [okP, and_assoc]
theorem okP_not {p : P11} (h : ¬ ((((1 ≤ p.d.d ∧ p.d.d ≤ 64) ∧ (1 ≤ p.d.s ∧ p.d.s ≤ 1048576)) ∧ p.v.right = true) ∧ p = part0 p.v p.d)) : okP p = false := by
  cases e : okP p
  · rfl
  · exact absurd (okP_bounds.1 e) h
theorem rightC_no {k : Int} {v : V3} {l : List P11} (h : ¬ RightL l) : false = rightC k v l := by
  simp [rightC, h]

end Go.Proofs.Ytomdbjmbkfdcmaa

