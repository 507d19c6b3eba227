/- Several texts laid together: MulRef, MulPut, MulRefJoin, MulRefWrite. -/
import Derived.Test.YtieaobeidlhefaaMbJoin
import Derived.BigQuiet
namespace Go.Proofs.Ytieaobeidlhefaa
set_option maxRecDepth 100000
open Go.RowKit Srt

theorem refFew_any (k : Int) (v : V3) (A : Option Addr) (n c : Nat) (w : World) :
    Calls Try.prog 15 #[cellV k v (.slice A n c)] w fun e w' => e = .returned (.bool (decide (n ≤ 60))) ∧ Below w.heap.size w w' := by
  have HB := Lib.hid (below_new (Below.refl w.heap.size w) (cellRow k v (.slice A n c)))
  obtain ⟨c0, c1, c2, c3, c4⟩ := cell_row5 (heap_alloc_new w (cellRow k v (.slice A n c)))
  go_enter Try.func15, Try.ntmps15
  go_wp2
  go_ret
  exact ⟨ret_bool (by simp; omega), HB.out⟩

theorem dotIn_no {l : List P11} {k : Nat} {x : P11} {d : D2} (hx : l[k]? = some x) (h : dotIn (l.take k) d = false) (hd : ¬ x.d = d) : dotIn (l.take (k + 1)) d = false := by
  rw [List.take_add_one, hx]
  simp only [dotIn, List.any_append] at h ⊢
  rw [h]
  simp [hd]

set_option maxHeartbeats 1600000 in
theorem refHas7_any (ka : Int) (v : V3) (A : Option Addr) (n c : Nat) (l : List P11) (d : D2) (w : World) (h : RdP w A n c l) :
    Calls Try.prog 26 #[cellV ka v (.slice A n c), d.agg] w fun e w' => e = .returned (.bool (dotIn l d)) ∧ Below w.heap.size w w' := by
  obtain ⟨w1, hw1⟩ : ∃ w1, w1 = (w.alloc (cellRow ka v (.slice A n c))).alloc (dotRow d) := ⟨_, rfl⟩
  have hb1 : Below w.heap.size w w1 := by rw [hw1]; exact below_new (below_new (Below.refl _ _) _) _
  have h4 : w1.heap[w.heap.size]? = some (cellRow ka v (.slice A n c)) := by rw [hw1, Below.heap_alloc _ _ _ (by simp)]; exact heap_alloc_new _ _
  have h5 : w1.heap[w.heap.size + 1]? = some (dotRow d) := by
    have := heap_alloc_new (w.alloc (cellRow ka v (.slice A n c))) (dotRow d)
    rw [World.size_alloc] at this
    rw [hw1]; exact this
  obtain ⟨c0, c1, c2, c3, c4⟩ := cell_row5 h4
  obtain ⟨d0, d1⟩ := dot_row h5
  have HRD := Lib.hid (h.below hb1)
  have HL := Lib.hid h.len
  have hle := h.le
  have HB := Lib.hid hb1
  clear h hb1 h4 h5
  go_enter Try.func26, Try.ntmps26
  go_wp2_with fail
  rw [← hw1]
  clear hw1
  go_loopw [5] (fun i wr => ∃ k : Nat, k ≤ n ∧ i = .int .i64 k ∧ Hid (dotIn (l.take k) d = false) ∧ Quiet w1 wr) (fun i _ => n - (intOf i).toNat)
  case atStart => exact ⟨0, Nat.zero_le _, rfl, by show _ = _; simp [dotIn], Quiet.refl _⟩
  case round =>
    obtain ⟨k, hk, rfl, hno, hq⟩ := hrel
    obtain ⟨dn, rfl⟩ := hq
    by_cases hlt : k < n
    · obtain ⟨b, o, x, rfl, _, hx, hcu⟩ := HRD.out.part hlt
      obtain ⟨_, _, _, x3, x4, _⟩ := hcu w1 (Below.refl _ _)
      have HX := Lib.hid hx
      have EQ := fun W => run_equalIn_dot x.d.d x.d.s d.d d.s W
      clear hcu hx
      by_cases he : x.d = d
      · have hb : decide ((⟨x.d.d, x.d.s⟩ : D2) = ⟨d.d, d.s⟩) = true := decide_eq_true he
        rw [hb] at EQ
        have HF : Hid (true = dotIn l d) := by
          show _ = _
          symm
          rw [dotIn_iff]
          exact ⟨x, List.mem_of_getElem? HX.out, he⟩
        clear he hb
        go_wp2
        go_quiet (fail)
        go_wp2
        go_ret
        exact ⟨ret_bool HF.out, below_quiet HB.out (by first | exact Quiet.add _ _ | exact Quiet.add2 _ _ _)⟩
      · have hb : decide ((⟨x.d.d, x.d.s⟩ : D2) = ⟨d.d, d.s⟩) = false := decide_eq_false he
        rw [hb] at EQ
        have HN := Lib.hid (dotIn_no HX.out hno.out he)
        clear he hb
        go_wp2
        go_quiet (fail)
        go_wp2
        exact ⟨⟨k + 1, by omega, by go_num, HN, by first | exact Quiet.add _ _ | exact Quiet.add2 _ _ _⟩, by simp [intOf]; omega⟩
    · have HF : Hid (false = dotIn l d) := by
        show _ = _
        have h1 := HL.out
        have h2 := hno.out
        rw [List.take_of_length_le (by omega)] at h2
        exact h2.symm
      go_wp2
      go_ret
      exact ⟨ret_bool HF.out, below_quiet HB.out (Quiet.add _ _)⟩

theorem take_eq_next {α : Type} {a b : List α} {k : Nat} {x : α} (h : a.take k = b.take k) (ha : a[k]? = some x) (hb : b[k]? = some x) : a.take (k + 1) = b.take (k + 1) := by
  rw [List.take_add_one, List.take_add_one, ha, hb, h]

set_option maxHeartbeats 3200000 in
theorem refSame7_any (ka : Int) (va : V3) (A : Option Addr) (n c : Nat) (la : List P11) (kb : Int) (vb : V3) (B : Option Addr) (m d : Nat) (lb : List P11) (w : World) (ha : RdP w A n c la) (hb : RdP w B m d lb) :
    Calls Try.prog 19 #[cellV ka va (.slice A n c), cellV kb vb (.slice B m d)] w fun e w' => e = .returned (.bool (decide (ka = kb) && decide (va = vb) && decide (la = lb))) ∧ Below w.heap.size w w' := by
  obtain ⟨w1, hw1⟩ : ∃ w1, w1 = (w.alloc (cellRow ka va (.slice A n c))).alloc (cellRow kb vb (.slice B m d)) := ⟨_, rfl⟩
  have hb1 : Below w.heap.size w w1 := by rw [hw1]; exact below_new (below_new (Below.refl _ _) _) _
  have h4 : w1.heap[w.heap.size]? = some (cellRow ka va (.slice A n c)) := by rw [hw1, Below.heap_alloc _ _ _ (by simp)]; exact heap_alloc_new _ _
  have h5 : w1.heap[w.heap.size + 1]? = some (cellRow kb vb (.slice B m d)) := by
    have := heap_alloc_new (w.alloc (cellRow ka va (.slice A n c))) (cellRow kb vb (.slice B m d))
    rw [World.size_alloc] at this
    rw [hw1]; exact this
  obtain ⟨c0, c1, c2, c3, c4⟩ := cell_row5 h4
  obtain ⟨d0, d1, d2, d3, d4⟩ := cell_row5 h5
  have HA := Lib.hid (ha.below hb1)
  have HB := Lib.hid (hb.below hb1)
  have HLA := Lib.hid ha.len
  have HLB := Lib.hid hb.len
  have hle := ha.le
  have hle2 := hb.le
  have HB1 := Lib.hid hb1
  have EV : ∀ W, (Op.equalIn 10000 23 (.agg #[.int .i64 va.k, .int .i64 va.n, .string va.s]) (.agg #[.int .i64 vb.k, .int .i64 vb.n, .string vb.s])).run Try.prog W = .ok (decide (va = vb)) W := fun W => run_equalIn_valF 9998 va vb W
  clear ha hb hb1 h4 h5
  by_cases hk : ka = kb
  rotate_left
  · have hkb : (ka == kb) = false := by simpa using hk
    have HF : Hid (false = (decide (ka = kb) && decide (va = vb) && decide (la = lb))) := by show _ = _; simp [hk]
    go_enter Try.func19, Try.ntmps19
    go_wp2
    go_ret
    exact ⟨ret_bool HF.out, by rw [← hw1]; exact HB1.out⟩
  subst hk
  by_cases hv : va = vb
  rotate_left
  · rw [decide_eq_false hv] at EV
    have HF : Hid (false = (decide (ka = ka) && decide (va = vb) && decide (la = lb))) := by show _ = _; simp [hv]
    clear hv
    go_enter Try.func19, Try.ntmps19
    go_wp2
    go_ret
    exact ⟨ret_bool HF.out, by rw [← hw1]; exact HB1.out⟩
  rw [decide_eq_true hv] at EV
  have HR : Hid ((decide (ka = ka) && decide (va = vb) && decide (la = lb)) = decide (la = lb)) := by show _ = _; simp [hv]
  rw [HR.out]
  clear hv HR
  by_cases hnm : n = m
  rotate_left
  · have hnb : ((n : Int) == (m : Int)) = false := by rw [beq_eq_false_iff_ne]; omega
    have HF : Hid (false = decide (la = lb)) := by
      show _ = _
      symm
      refine decide_eq_false fun e => hnm ?_
      rw [← HLA.out, ← HLB.out, e]
    have hnz : ¬ ((n : Int) = (m : Int)) := by omega
    clear hnm
    go_enter Try.func19, Try.ntmps19
    go_wp2
    go_ret
    exact ⟨ret_bool HF.out, by rw [← hw1]; exact HB1.out⟩
  subst hnm
  go_enter Try.func19, Try.ntmps19
  go_wp2_with fail
  rw [← hw1]
  clear hw1 EV
  go_loopw [5] (fun i wr => ∃ k : Nat, k ≤ n ∧ i = .int .i64 k ∧ Hid (la.take k = lb.take k) ∧ Quiet w1 wr) (fun i _ => n - (intOf i).toNat)
  case atStart => exact ⟨0, Nat.zero_le _, rfl, by show _ = _; simp, Quiet.refl _⟩
  case round =>
    obtain ⟨k, hk, rfl, hno, hq⟩ := hrel
    obtain ⟨dn, rfl⟩ := hq
    by_cases hlt : k < n
    · obtain ⟨b, o, x, rfl, _, hx, hcu⟩ := HA.out.part hlt
      obtain ⟨b', o', y, rfl, _, hy, hcv⟩ := HB.out.part hlt
      obtain ⟨x0, x1, x2, x3, x4, x5, x6, x7, x8, x9, x10⟩ := hcu w1 (Below.refl _ _)
      obtain ⟨y0, y1, y2, y3, y4, y5, y6, y7, y8, y9, y10⟩ := hcv w1 (Below.refl _ _)
      have HX := Lib.hid hx; have HY := Lib.hid hy
      have EQ : ∀ W, (Op.equalIn 10000 32 (.agg #[.int .i64 x.v.k, .int .i64 x.v.n, .string x.v.s, .int .i64 x.d.d, .int .i64 x.d.s, .int .i64 x.i, .int .i64 x.t, .int .i64 x.a.d, .int .i64 x.a.s, .int .i64 x.j, .bool x.g]) (.agg #[.int .i64 y.v.k, .int .i64 y.v.n, .string y.v.s, .int .i64 y.d.d, .int .i64 y.d.s, .int .i64 y.i, .int .i64 y.t, .int .i64 y.a.d, .int .i64 y.a.s, .int .i64 y.j, .bool y.g])).run Try.prog W = .ok (decide (x = y)) W := fun W => run_equalIn_part x y W
      clear hcu hx hcv hy
      by_cases he : x = y
      · rw [decide_eq_true he] at EQ
        have HN := Lib.hid (take_eq_next hno.out HX.out (by rw [he]; exact HY.out))
        clear he
        go_wp2
        go_quiet (fail)
        go_wp2
        exact ⟨⟨k + 1, by omega, by go_num, HN, by first | exact Quiet.add _ _ | exact Quiet.add2 _ _ _⟩, by simp [intOf]; omega⟩
      · rw [decide_eq_false he] at EQ
        have HF : Hid (false = decide (la = lb)) := by
          show _ = _
          symm
          refine decide_eq_false fun e => he ?_
          have h1 := HX.out; have h2 := HY.out
          rw [e, h2] at h1
          exact (Option.some.inj h1).symm
        clear he
        go_wp2
        go_quiet (fail)
        go_wp2
        go_ret
        exact ⟨ret_bool HF.out, below_quiet HB1.out (by first | exact Quiet.add _ _ | exact Quiet.add2 _ _ _)⟩
    · have HF : Hid (true = decide (la = lb)) := by
        show _ = _
        symm
        refine decide_eq_true ?_
        have h1 := HLA.out
        have h2 := HLB.out
        have h3 := hno.out
        rwa [List.take_of_length_le (by omega), List.take_of_length_le (by omega)] at h3
      go_wp2
      go_ret
      exact ⟨ret_bool HF.out, below_quiet HB1.out (Quiet.add _ _)⟩
end Go.Proofs.Ytieaobeidlhefaa

namespace Go.Proofs.Ytieaobeidlhefaa
set_option maxRecDepth 100000
open Go.RowKit Srt

theorem insP_yes (x : P11) (u : List P11) : ∀ (t : List P11), (∃ p ∈ t, aboveD p.d x.d = true) → insP (t ++ u) x = insP t x ++ u
  | [], h => by obtain ⟨p, hp, _⟩ := h; simp at hp
  | p :: t, h => by
    rw [List.cons_append, insP_cons, insP_cons]
    split
    · rfl
    · rename_i hn
      rw [insP_yes x u t ?_]
      · rfl
      · obtain ⟨q, hq, ha⟩ := h
        rcases List.mem_cons.1 hq with rfl | hq
        · exact absurd ha hn
        · exact ⟨q, hq, ha⟩
theorem insP_no (x : P11) (u : List P11) : ∀ (t : List P11), (∀ p ∈ t, aboveD p.d x.d = false) → insP (t ++ u) x = t ++ insP u x
  | [], _ => rfl
  | p :: t, h => by
    rw [List.cons_append, insP_cons, if_neg (by rw [h p (List.mem_cons_self ..)]; simp), insP_no x u t (fun q hq => h q (List.mem_cons_of_mem _ hq))]
    rfl

/-- how far a part is put in, behind k others -/
def Putting (t : List P11) (x : P11) (laid : Bool) (done : List P11) : Prop :=
  (laid = true ∧ done = insP t x ∧ ∃ p ∈ t, aboveD p.d x.d = true) ∨ (laid = false ∧ done = t ∧ ∀ p ∈ t, aboveD p.d x.d = false)
theorem Putting.start (x : P11) : Putting [] x false [] := .inr ⟨rfl, rfl, by simp⟩
theorem Putting.go {t done : List P11} {x y : P11} (h : Putting t x true done) : Putting (t ++ [y]) x true (done ++ [y]) := by
  rcases h with ⟨_, h2, h3⟩ | ⟨h1, _⟩
  · refine .inl ⟨rfl, by rw [insP_yes x [y] t h3, h2], ?_⟩
    obtain ⟨p, hp, ha⟩ := h3
    exact ⟨p, List.mem_append_left _ hp, ha⟩
  · cases h1
theorem Putting.lay {t done : List P11} {x y : P11} (h : Putting t x false done) (ha : aboveD y.d x.d = true) : Putting (t ++ [y]) x true (done ++ [x] ++ [y]) := by
  rcases h with ⟨h1, _⟩ | ⟨_, h2, h3⟩
  · cases h1
  · refine .inl ⟨rfl, ?_, y, by simp, ha⟩
    rw [insP_no x [y] t h3, insP_cons, if_pos ha, h2]; simp
theorem Putting.pass {t done : List P11} {x y : P11} (h : Putting t x false done) (ha : aboveD y.d x.d = false) : Putting (t ++ [y]) x false (done ++ [y]) := by
  rcases h with ⟨h1, _⟩ | ⟨_, h2, h3⟩
  · cases h1
  · refine .inr ⟨rfl, by rw [h2], fun p hp => ?_⟩
    rcases List.mem_append.1 hp with hp | hp
    · exact h3 p hp
    · rw [List.mem_singleton] at hp; subst hp; exact ha
theorem Putting.done_ {t done : List P11} {x : P11} (h : Putting t x true done) : done = insP t x := by
  rcases h with ⟨_, h2, _⟩ | ⟨h1, _⟩
  · exact h2
  · cases h1
theorem Putting.last {t done : List P11} {x : P11} (h : Putting t x false done) : done ++ [x] = insP t x := by
  rcases h with ⟨h1, _⟩ | ⟨_, h2, h3⟩
  · cases h1
  · have := insP_no x [] t h3
    rw [List.append_nil] at this
    rw [this, insP_nil, h2]
theorem Putting.len {t done : List P11} {x : P11} {b : Bool} (h : Putting t x b done) : done.length ≤ t.length + 1 := by
  rcases h with ⟨_, h2, _⟩ | ⟨_, h2, _⟩
  · rw [h2, insP_len]; omega
  · rw [h2]; omega
theorem take_snoc {α : Type} {l : List α} {k : Nat} {x : α} (h : l[k]? = some x) : l.take (k + 1) = l.take k ++ [x] := by
  rw [List.take_add_one, h]; rfl

/-- a part more, behind a row of the call's own: and all but the row is as it was -/
theorem wpList_pushP2 {w W0 : World} {ops : Array Oper} {rest : List Oper} {o : Oper} {a : Act} {Q : Exit → Act → World → Prop} (hgd : o.guard = none) (s x : Operand)
    (ho : o.op = .call { callee := .builtin .append, args := #[s, x], argTypes := #[24, 24] })
    (base : Nat) (v : Value) (n : Nat) (l : List P11) (u : P11) (g : Nat) (hg : w.heap.size = g) (hx : a.eval x = .slice (some ⟨g, 0, none⟩) 1 1)
    (hs : a.eval s = v) (hown : w.ownsRow base 32 11 v n (l.flatMap P11.cells)) (hn : n < 4294967296)
    (hbel : Below base W0 w) (hbase : base ≤ w.heap.size)
    (h : ∀ v' w', w'.ownsRow base 32 11 v' (n + 1) ((l ++ [u]).flatMap P11.cells) → Below base W0 w' → base ≤ w'.heap.size → (∀ k, k < w.heap.size → v.ownBlock ≠ some k → w'.heap[k]? = w.heap[k]?) → wpList Try.prog ops Q rest (a.put o.dst v') w') :
    wpList Try.prog ops Q (o :: rest) a (w.alloc (partCells u)) := by
  subst hg
  obtain ⟨i0, hi0, hz0, hz1, hz2⟩ := info_parts Try.infoPart
  refine wpList_append_own _ hgd s x 24 ho base 32 i0 _ 11 96 Try.underlying24 hi0 hz0 hz1 hz2 rfl (by omega) v n (l.flatMap P11.cells) hs (hown.alloc _) ⟨w.heap.size, 0, none⟩ 1 1 u.cells hx rfl ?_
    (p11one u) (by simp only [maxLen]; omega) (by omega) (by simp; omega) ?_
  · intro j y hj
    rw [Addr.add_lit, Nat.zero_add, cell_row (heap_alloc_new w _)]
    simpa [P11.cells] using hj
  intro v' w' hown' hgrow _
  refine h v' w' ?_ ?_ (by have := hgrow.size; simp at this; omega) ?_
  · rw [List.flatMap_append]
    simpa using hown'
  · exact (hbel.alloc hbase _).grown hgrow (by simp; omega) (fun k hk => (hown.lt k hk).1)
  · intro k hk hne
    rw [hgrow.block k (by simp; omega) (fun e => hne e.symm), Below.heap_alloc _ _ _ hk]

set_option maxHeartbeats 6400000 in
theorem put_any (A : Option Addr) (n c : Nat) (l : List P11) (x : P11) (w : World) (h : RdP w A n c l) (hn : n ≤ 4294967290) :
    Calls Try.prog 64 #[.slice A n c, x.agg] w fun e w' => ∃ v, e = .returned v ∧ w'.ownsRow w.heap.size 32 11 v (n + 1) ((insP l x).flatMap P11.cells) ∧ Below w.heap.size w w' := by
  obtain ⟨w1, hw1⟩ : ∃ w1, w1 = w.alloc (partCells x) := ⟨_, rfl⟩
  have hb1 : Below w.heap.size w w1 := by rw [hw1]; exact below_new (Below.refl _ _) _
  have h4 : w1.heap[w.heap.size]? = some (partCells x) := by rw [hw1]; exact heap_alloc_new _ _
  have hs1 : w1.heap.size = w.heap.size + 1 := by rw [hw1]; simp
  have HRD := Lib.hid (h.below hb1)
  have HL := Lib.hid h.len
  have HB := Lib.hid hb1
  have H4 := Lib.hid h4
  have HS1 := Lib.hid hs1
  have AB := Lib.hid (fun a b => above_any a b)
  clear h hb1 h4 hs1
  obtain ⟨F, hF⟩ : ∃ F, Hid (F = insP l x) := ⟨_, rfl⟩
  have hFl : Hid (F.length = n + 1) := by show _ = _; rw [hF.out, insP_len, HL.out]
  rw [← hF.out]
  have hown0 : w1.ownsRow w1.heap.size 32 11 (.slice none 0 0) ([] : List P11).length (([] : List P11).flatMap P11.cells) := ⟨rfl, .inl ⟨rfl, rfl⟩⟩
  go_enter Try.func64, Try.ntmps64
  go_wp2_with fail
  rw [← hw1]
  clear hw1
  go_loopw [5, 6, 7] (fun v u i wr => ∃ (k : Nat) (laid : Bool) (done : List P11), k ≤ n ∧ i = .int .i64 k ∧ u = .bool laid ∧ Hid (Putting (l.take k) x laid done) ∧ wr.ownsRow w1.heap.size 32 11 v done.length (done.flatMap P11.cells) ∧ Below w1.heap.size w1 wr ∧ w1.heap.size ≤ wr.heap.size) (fun _ _ i _ => n - (intOf i).toNat)
  case atStart => exact ⟨0, false, [], Nat.zero_le _, rfl, rfl, by show Putting _ _ _ _; rw [List.take_zero]; exact Putting.start x, hown0, Below.refl _ _, Nat.le_refl _⟩
  case round =>
    clear hown0
    obtain ⟨k, laid, done, hk, rfl, rfl, hP, hown, hbel, hsz⟩ := hrel
    have hdl : done.length ≤ k + 1 := by have := hP.out.len; rw [List.length_take] at this; omega
    by_cases hlt : k < n
    · obtain ⟨b, o, y, rfl, hb, hy, hld⟩ := HRD.out.part hlt
      have HY := Lib.hid hy
      have HLD := Lib.hid hld
      clear hy hld
      cases laid with
      | true =>
        have hP2 : Hid (Putting (l.take (k + 1)) x true (done ++ [y])) := by show Putting _ _ _ _; rw [take_snoc HY.out]; exact hP.out.go
        go_wp2_with fail
        go_quiet (fail)
        obtain ⟨w3, hw3⟩ : ∃ w3, w3 = wr.drewN nq := ⟨_, rfl⟩
        have hb3 : Below w1.heap.size w1 w3 := by rw [hw3]; exact below_drewN hbel nq
        have ho3 : w3.ownsRow w1.heap.size 32 11 u5 done.length (done.flatMap P11.cells) := by rw [hw3]; exact hown
        have hs3 : w1.heap.size ≤ w3.heap.size := by rw [hw3]; exact hsz
        rw [← hw3]
        obtain ⟨c0, c1, c2, c3, c4, c5, c6, c7, c8, c9, c10⟩ := HLD.out w3 hb3
        clear hown hbel hsz hw3
        go_wp2_with (at_builtin; refine wpList_pushP rfl (.tmp 30) (.tmp 35) rfl w1.heap.size _ _ done y w3.heap.size rfl rfl rfl ho3 (by omega) hb3 hs3 ?_; intro v3 w5 hown5 B5 hsz5)
        exact ⟨⟨k + 1, true, done ++ [y], by omega, by go_num, rfl, hP2, by simpa using hown5, B5, hsz5⟩, by simp [intOf]; omega⟩
      | false =>
        obtain ⟨_, _, _, c3, c4, _⟩ := HLD.out wr hbel
        obtain ⟨_, _, _, d3, d4, _⟩ := part_row ((hbel.block w.heap.size (by have := HS1.out; omega)).trans H4.out)
        have lb : b < wr.heap.size := by omega
        have lw : w.heap.size < wr.heap.size := by have := HS1.out; omega
        have K : Hid (∀ W, Below wr.heap.size wr W → Below wr.heap.size wr W ∧ W.cell? ⟨b, o + k * 11 + 3, none⟩ = some (.int .i64 y.d.d) ∧ W.cell? ⟨b, o + k * 11 + 4, none⟩ = some (.int .i64 y.d.s) ∧ W.cell? ⟨w.heap.size, 3, none⟩ = some (.int .i64 x.d.d) ∧ W.cell? ⟨w.heap.size, 4, none⟩ = some (.int .i64 x.d.s)) := by
          intro W hW
          exact ⟨hW, (hW.cell (p := ⟨b, _, none⟩) lb).trans c3, (hW.cell (p := ⟨b, _, none⟩) lb).trans c4, (hW.cell (p := ⟨w.heap.size, _, none⟩) lw).trans d3, (hW.cell (p := ⟨w.heap.size, _, none⟩) lw).trans d4⟩
        obtain ⟨r, hr, C⟩ : ∃ r, Hid (aboveD y.d x.d = r) ∧ Hid (∀ W, Calls Try.prog 53 #[.agg #[.int .i64 y.d.d, .int .i64 y.d.s], .agg #[.int .i64 x.d.d, .int .i64 x.d.s]] W fun e w' => e = .returned (.bool r) ∧ Below W.heap.size W w') := ⟨_, rfl, fun W => above_any y.d x.d W⟩
        have K0 := K.out wr (Below.refl _ _)
        clear c3 c4 d3 d4 lb lw
        cases r with
        | true =>
          have hP2 : Hid (Putting (l.take (k + 1)) x true (done ++ [x] ++ [y])) := by show Putting _ _ _ _; rw [take_snoc HY.out]; exact hP.out.lay hr.out
          go_wp2_with fail
          go_region_held3 (fun W => Below wr.heap.size wr W ∧ W.cell? ⟨b, o + k * 11 + 3, none⟩ = some (.int .i64 y.d.d) ∧ W.cell? ⟨b, o + k * 11 + 4, none⟩ = some (.int .i64 y.d.s) ∧ W.cell? ⟨w.heap.size, 3, none⟩ = some (.int .i64 x.d.d) ∧ W.cell? ⟨w.heap.size, 4, none⟩ = some (.int .i64 x.d.s))
            (first
              | exact K.out _ (below_then (And.left (by with_reducible assumption)) bb)
              | exact K.out _ (Below.drew (Below.refl _ _)))
            (first
              | (go_at_call 53; refine (C.out _).mono ?_; rintro e wx ⟨rfl, bb⟩))
          have hbx := below_then (Below.refl wr.heap.size wr).drew bb
          have hb3 := hbel.trans (hbx.mono hsz)
          have ho3 := own_below hown hbx
          have hs3 := Nat.le_trans hsz hbx.size
          clear hown hbel K0 bb hbx
          obtain ⟨c0, c1, c2, c3, c4, c5, c6, c7, c8, c9, c10⟩ := HLD.out wx hb3
          obtain ⟨d0, d1, d2, d3, d4, d5, d6, d7, d8, d9, d10⟩ := part_row ((hb3.block w.heap.size (by have := HS1.out; omega)).trans H4.out)
          go_wp2_with (first
            | (at_builtin; refine wpList_pushP rfl (.tmp 26) (.tmp 28) rfl w1.heap.size _ _ done x wx.heap.size rfl rfl rfl ho3 (by omega) hb3 hs3 ?_; intro v3 w5 hown5 B5 hsz5; clear c0 c1 c2 c3 c4 c5 c6 c7 c8 c9 c10; obtain ⟨c0, c1, c2, c3, c4, c5, c6, c7, c8, c9, c10⟩ := HLD.out w5 B5)
            | (at_builtin; refine wpList_pushP rfl (.tmp 30) (.tmp 35) rfl w1.heap.size _ _ (done ++ [x]) y w5.heap.size rfl rfl rfl hown5 (by omega) B5 hsz5 ?_; intro v4 w6 hown6 B6 hsz6))
          exact ⟨⟨k + 1, true, done ++ [x] ++ [y], by omega, by go_num, rfl, hP2, by simpa using hown6, B6, hsz6⟩, by simp [intOf]; omega⟩
        | false =>
          have hP2 : Hid (Putting (l.take (k + 1)) x false (done ++ [y])) := by show Putting _ _ _ _; rw [take_snoc HY.out]; exact hP.out.pass hr.out
          go_wp2_with fail
          go_region_held3 (fun W => Below wr.heap.size wr W ∧ W.cell? ⟨b, o + k * 11 + 3, none⟩ = some (.int .i64 y.d.d) ∧ W.cell? ⟨b, o + k * 11 + 4, none⟩ = some (.int .i64 y.d.s) ∧ W.cell? ⟨w.heap.size, 3, none⟩ = some (.int .i64 x.d.d) ∧ W.cell? ⟨w.heap.size, 4, none⟩ = some (.int .i64 x.d.s))
            (first
              | exact K.out _ (below_then (And.left (by with_reducible assumption)) bb)
              | exact K.out _ (Below.drew (Below.refl _ _)))
            (first
              | (go_at_call 53; refine (C.out _).mono ?_; rintro e wx ⟨rfl, bb⟩))
          have hbx := below_then (Below.refl wr.heap.size wr).drew bb
          have hb3 := hbel.trans (hbx.mono hsz)
          have ho3 := own_below hown hbx
          have hs3 := Nat.le_trans hsz hbx.size
          clear hown hbel K0 bb hbx
          obtain ⟨c0, c1, c2, c3, c4, c5, c6, c7, c8, c9, c10⟩ := HLD.out wx hb3
          go_wp2_with (at_builtin; refine wpList_pushP rfl (.tmp 30) (.tmp 35) rfl w1.heap.size _ _ done y wx.heap.size rfl rfl rfl ho3 (by omega) hb3 hs3 ?_; intro v3 w5 hown5 B5 hsz5)
          exact ⟨⟨k + 1, false, done ++ [y], by omega, by go_num, rfl, hP2, by simpa using hown5, B5, hsz5⟩, by simp [intOf]; omega⟩
    · cases laid with
      | true =>
        have hfin : Hid (done = F) := by show _ = _; rw [hP.out.done_, hF.out, List.take_of_length_le (by rw [HL.out]; omega)]
        go_wp2
        go_ret
        refine ⟨_, rfl, ?_, below_then HB.out (hbel.mono (Nat.le_refl _))⟩
        rw [← hFl.out, ← hfin.out]
        exact own_mono hown (by have := HS1.out; omega)
      | false =>
        have hfin : Hid (done ++ [x] = F) := by show _ = _; rw [hP.out.last, hF.out, List.take_of_length_le (by rw [HL.out]; omega)]
        obtain ⟨d0, d1, d2, d3, d4, d5, d6, d7, d8, d9, d10⟩ := part_row ((hbel.block w.heap.size (by have := HS1.out; omega)).trans H4.out)
        go_wp2_with (at_builtin; refine wpList_pushP rfl (.tmp 39) (.tmp 41) rfl w1.heap.size _ _ done x wr.heap.size rfl rfl rfl hown (by omega) hbel hsz ?_; intro v3 w5 hown5 B5 hsz5)
        go_ret
        refine ⟨_, rfl, ?_, below_then HB.out B5⟩
        rw [← hFl.out, ← hfin.out]
        exact own_mono (by simpa using hown5) (by have := HS1.out; omega)
end Go.Proofs.Ytieaobeidlhefaa

namespace Go.Proofs.Ytieaobeidlhefaa
set_option maxRecDepth 100000
open Go.RowKit Srt

theorem foldl_ins_len (l : List P11) : ∀ d : List P11, (l.foldl insP d).length = d.length + l.length := by
  induction l with
  | nil => intro d; rfl
  | cons x l ih => intro d; rw [List.foldl_cons, ih, insP_len, List.length_cons]; omega

/-- the boxes of a call of the document's Join -/
def rjBoxes (ka : Int) (va : V3) (sa : Value) (kb : Int) (vb : V3) (sb : Value) (w : World) : World :=
  (((w.alloc (cellRow ka va sa)).alloc (cellRow kb vb sb)).alloc (cellRow 0 ⟨0, 0, ⟨#[]⟩⟩ (.slice none 0 0))).alloc (cellRow 1 ⟨0, 0, ⟨#[]⟩⟩ (.slice none 0 0))

theorem rjBoxes_is (ka : Int) (va : V3) (sa : Value) (kb : Int) (vb : V3) (sb : Value) (w : World) :
    (rjBoxes ka va sa kb vb sb w).heap.size = w.heap.size + 4 ∧ Below w.heap.size w (rjBoxes ka va sa kb vb sb w)
    ∧ (rjBoxes ka va sa kb vb sb w).heap[w.heap.size]? = some (cellRow ka va sa) ∧ (rjBoxes ka va sa kb vb sb w).heap[w.heap.size + 1]? = some (cellRow kb vb sb)
    ∧ (rjBoxes ka va sa kb vb sb w).heap[w.heap.size + 1 + 1]? = some (cellRow 0 ⟨0, 0, ⟨#[]⟩⟩ (.slice none 0 0)) ∧ (rjBoxes ka va sa kb vb sb w).heap[w.heap.size + 1 + 1 + 1]? = some (cellRow 1 ⟨0, 0, ⟨#[]⟩⟩ (.slice none 0 0)) := by
  have hat : ∀ (w : World) (o : Obj) (g : Nat), w.heap.size = g → (w.alloc o).heap[g]? = some o := fun w o g h => by subst h; exact heap_alloc_new _ _
  refine ⟨by simp [rjBoxes], ?_, ?_, ?_, ?_, ?_⟩
  · exact below_new (below_new (below_new (below_new (Below.refl _ _) _) _) _) _
  · rw [rjBoxes, Below.heap_alloc _ _ _ (by simp only [World.size_alloc]; omega), Below.heap_alloc _ _ _ (by simp only [World.size_alloc]; omega), Below.heap_alloc _ _ _ (by simp only [World.size_alloc]; omega)]; exact hat _ _ _ rfl
  · rw [rjBoxes, Below.heap_alloc _ _ _ (by simp only [World.size_alloc]; omega), Below.heap_alloc _ _ _ (by simp only [World.size_alloc]; omega)]; exact hat _ _ _ (by simp)
  · rw [rjBoxes, Below.heap_alloc _ _ _ (by simp)]; exact hat _ _ _ (by simp)
  · exact hat _ _ _ (by simp)

set_option maxHeartbeats 6400000 in
theorem refJoin_any (ka : Int) (va : V3) (A : Option Addr) (n c : Nat) (la : List P11) (kb : Int) (vb : V3) (B : Option Addr) (m d : Nat) (lb : List P11) (C : Option Addr) (p pc : Nat) (na : List Int) (D : Option Addr) (q qc : Nat) (nb : List Int) (w : World)
    (ha : RdP w A n c la) (hb : RdP w B m d lb) (hn : n + m ≤ 4294967000) (hka : Rd w C p pc (vals .i64 na)) (hkb : Rd w D q qc (vals .i64 nb)) :
    Calls Try.prog 23 #[cellV ka va (.slice A n c), cellV kb vb (.slice B m d), .slice C p pc, .slice D q qc] w fun e w' =>
      ∃ A' c', e = .returned (cellV 1 ⟨0, 0, ⟨#[]⟩⟩ (.slice A' (joinL la lb na nb).length c')) ∧ RdP w' A' (joinL la lb na nb).length c' (joinL la lb na nb) ∧ Below w.heap.size w w' := by
  obtain ⟨w1, hw1⟩ : ∃ w1, w1 = rjBoxes ka va (.slice A n c) kb vb (.slice B m d) w := ⟨_, rfl⟩
  obtain ⟨hs1, hb1, h4, h5, h8, h9⟩ := rjBoxes_is ka va (.slice A n c) kb vb (.slice B m d) w
  rw [← hw1] at hs1 hb1 h4 h5 h8 h9
  obtain ⟨F, hF⟩ : ∃ F, Hid (F = joinL la lb na nb) := ⟨_, rfl⟩
  have HF : Hid (F = (lb.filter (joinB la na)).foldl insP ((la.filter (joinA lb nb)).foldl insP [])) := by show _ = _; rw [hF.out, joinL_steps]
  rw [← hF.out]
  have HLA := Lib.hid ha; have HLB := Lib.hid hb; have HKA := Lib.hid hka; have HKB := Lib.hid hkb
  have HnA := Lib.hid ha.len; have HnB := Lib.hid hb.len
  have hle := ha.le; have hle2 := hb.le
  have G := Lib.hid (show w.heap.size < w1.heap.size ∧ w.heap.size + 1 < w1.heap.size ∧ w.heap.size + 1 + 1 < w1.heap.size ∧ w.heap.size + 1 + 1 + 1 < w1.heap.size ∧ w.heap.size ≤ w.heap.size + 1 ∧ w.heap.size ≤ w.heap.size + 1 + 1 ∧ w.heap.size ≤ w.heap.size + 1 + 1 + 1 ∧ w.heap.size ≠ w.heap.size + 1 + 1 + 1 ∧ w.heap.size + 1 ≠ w.heap.size + 1 + 1 + 1 ∧ w.heap.size + 1 + 1 ≠ w.heap.size + 1 + 1 + 1 from by refine ⟨?_, ?_, ?_, ?_, ?_, ?_, ?_, ?_, ?_, ?_⟩ <;> omega)
  have H4 := Lib.hid h4; have H5 := Lib.hid h5; have H8 := Lib.hid h8; have H9 := Lib.hid h9; have HB1 := Lib.hid hb1
  obtain ⟨a0, a1, a2, a3, a4⟩ := cell_row5 h4
  unfold rjBoxes at hw1
  clear ha hb hka hkb h4 h5 h8 h9 hs1 hb1 hF
  go_enter Try.func23, Try.ntmps23
  go_wp2_with fail
  rw [← hw1]
  clear hw1 a0 a1 a2 a3 a4
  generalize w.heap.size + 1 + 1 + 1 = g9 at H9 G ⊢
  generalize w.heap.size + 1 + 1 = g8 at H8 G ⊢
  generalize w.heap.size + 1 = g5 at H5 G ⊢
  go_loopw [10] (fun i wr => ∃ (k : Nat) (done : List P11) (A5 : Option Addr) (c5 : Nat), k ≤ n ∧ i = .int .i64 k ∧ Hid (done = ((la.take k).filter (joinA lb nb)).foldl insP []) ∧ wr.heap[g9]? = some (cellRow 1 ⟨0, 0, ⟨#[]⟩⟩ (.slice A5 done.length c5)) ∧ Hid (wr.heap[w.heap.size]? = some (cellRow ka va (.slice A n c))) ∧ Hid (wr.heap[g5]? = some (cellRow kb vb (.slice B m d))) ∧ Hid (wr.heap[g8]? = some (cellRow 0 ⟨0, 0, ⟨#[]⟩⟩ (.slice none 0 0))) ∧ Hid (RdP wr A5 done.length c5 done) ∧ Hid (∀ a, A5 = some a → w1.heap.size ≤ a.block) ∧ Below w.heap.size w wr ∧ w1.heap.size ≤ wr.heap.size) (fun i _ => n - (intOf i).toNat)
  case atStart => exact ⟨0, [], none, 0, Nat.zero_le _, rfl, by show _ = _; simp, H9.out, H4, H5, H8, RdG.nil_ _, fun a ha => (nomatch ha), HB1.out, Nat.le_refl _⟩
  case round =>
    clear H9 H4 H5 H8 HB1
    obtain ⟨k, done, A5, c5, hk, rfl, hd, h9, h4, h5, h8, hrd, hab, hbel, hsz⟩ := hrel
    have lg := G.out
    have hdl : done.length ≤ 0 + k := by
      rw [hd.out, foldl_ins_len]
      have := List.length_filter_le (joinA lb nb) (la.take k)
      rw [List.length_take] at this
      have h0 : ([] : List P11).length = 0 := rfl
      omega
    by_cases hlt : k < n
    · obtain ⟨b, o, x, rfl, hb, hx, hld⟩ := HLA.out.part hlt
      obtain ⟨c0, c1, c2, c3, c4, c5', c6, c7, c8, c9, c10⟩ := hld wr hbel
      obtain ⟨_, _, _, _, q4⟩ := cell_row5 h4.out
      have l9 : g9 < wr.heap.size := by omega
      have l4 : w.heap.size < wr.heap.size := by omega
      have l8 : g8 < wr.heap.size := by omega
      have l5 : g5 < wr.heap.size := by omega
      obtain ⟨w2, hw2⟩ : ∃ w2, w2 = wr.alloc (partCells x) := ⟨_, rfl⟩
      have B2 : Below wr.heap.size wr w2 := by rw [hw2]; exact below_new (Below.refl _ _) _
      have hnew : w2.heap[wr.heap.size]? = some (partCells x) := by rw [hw2]; exact heap_alloc_new _ _
      have K : Hid (∀ W, Below w2.heap.size w2 W → W.heap[g9]? = some (cellRow 1 ⟨0, 0, ⟨#[]⟩⟩ (.slice A5 done.length c5)) ∧ W.heap[w.heap.size]? = some (cellRow ka va (.slice (some ⟨b, o, none⟩) n c)) ∧ W.heap[g5]? = some (cellRow kb vb (.slice B m d)) ∧ W.heap[g8]? = some (cellRow 0 ⟨0, 0, ⟨#[]⟩⟩ (.slice none 0 0)) ∧ W.heap[wr.heap.size]? = some (partCells x) ∧ RdP W A5 done.length c5 done ∧ Below w.heap.size w W ∧ w1.heap.size ≤ W.heap.size) := by
        intro W hW
        have h1 := below_then B2 hW
        exact ⟨(h1.block g9 l9).trans h9, (h1.block w.heap.size l4).trans h4.out, (h1.block g5 l5).trans h5.out, (h1.block g8 l8).trans h8.out, row_below hnew hW, hrd.out.below h1, below_then hbel (h1.mono (by have := hbel.size; omega)), Nat.le_trans hsz h1.size⟩
      obtain ⟨r1, hr1, C1⟩ : ∃ r, Hid (dotIn lb x.d = r) ∧ Hid (Calls Try.prog 26 #[cellV kb vb (.slice B m d), .agg #[.int .i64 x.d.d, .int .i64 x.d.s]] w2 fun e w' => e = .returned (.bool r) ∧ Below w2.heap.size w2 w') :=
        ⟨_, rfl, refHas7_any _ _ _ _ _ _ x.d w2 (HLB.out.below (below_then hbel (B2.mono (by have := hbel.size; omega))))⟩
      obtain ⟨r2, hr2, C2⟩ : ∃ r, Hid (knowsV nb x.d = r) ∧ Hid (∀ W, Below w2.heap.size w2 W → Calls Try.prog 25 #[.slice D q qc, .agg #[.int .i64 x.d.d, .int .i64 x.d.s]] W fun e w' => e = .returned (.bool r) ∧ Below W.heap.size W w') :=
        ⟨_, rfl, fun W hW => refHas_any _ _ _ _ x.d.d x.d.s W (HKB.out.below (K.out W hW).2.2.2.2.2.2.1)⟩
      have hstep := Lib.hid (filter_step (p := (joinA lb nb)) hx)
      have HP : Hid (∀ W, Below w2.heap.size w2 W → Calls Try.prog 64 #[.slice A5 done.length c5, x.agg] W fun e w' => ∃ A6 c6, e = .returned (.slice A6 (done.length + 1 : Nat) c6) ∧ RdP w' A6 (done.length + 1) c6 (insP done x) ∧ (∀ a, A6 = some a → W.heap.size ≤ a.block) ∧ Below W.heap.size W w') := by
        intro W hW
        refine (put_any A5 done.length c5 done x W (K.out W hW).2.2.2.2.2.1 (by omega)).mono ?_
        rintro e w' ⟨v, rfl, ho, hb'⟩
        obtain ⟨A6, c6, rfl, hrd6⟩ := RdG.own_ p11len (by omega) ho
        exact ⟨A6, c6, rfl, hrd6, fun a ha => (ho.lt a.block (by rw [ha]; rfl)).1, hb'⟩
      have HKeep : Hid ((joinA lb nb) x = true → ((la.take (k + 1)).filter (joinA lb nb)).foldl insP [] = insP done x) := by
        intro h
        rw [hstep.out, h, List.foldl_append, ← hd.out]; rfl
      have HDrop : Hid ((joinA lb nb) x = false → ((la.take (k + 1)).filter (joinA lb nb)).foldl insP [] = done) := by
        intro h
        rw [hstep.out, h, hd.out]; simp
      have HW2 := Lib.hid hw2
      clear hld hx hrd h4 h5 h8 h9 hbel hsz hd hstep B2 hnew hw2
      cases r1 with
      | true =>
        obtain ⟨k9, k4, k5, k8, kx, krd, kb', ks⟩ := K.out w2 (Below.refl _ _)
        obtain ⟨y0, y1, y2, y3, y4⟩ := cell_row5 k5
        obtain ⟨x0, x1, x2, x3, x4, x5, x6, x7, x8, x9, x10⟩ := part_row kx
        clear k9 k4 k5 k8 kx krd kb' ks
        go_upto_region 6 with fail
        rw [← HW2.out]
        go_wp2_with fail
        refine C1.out.mono ?_
        rintro e w3 ⟨rfl, b3⟩
        clear x0 x1 x2 x3 x4 x5 x6 x7 x8 x9 x10 y0 y1 y2 y3 y4
        have hkeep := Lib.hid (HKeep.out (by unfold joinA; rw [hr1.out]; rfl))
        obtain ⟨k9, k4, k5, k8, kx, krd, kb', ks⟩ := K.out w3 b3
        obtain ⟨_, _, _, _, p4⟩ := cell_row5 k9
        obtain ⟨x0, x1, x2, x3, x4, x5, x6, x7, x8, x9, x10⟩ := part_row kx
        have C3 := Lib.hid (HP.out w3 b3)
        have K9 := Lib.hid k9; have K4 := Lib.hid k4; have K5 := Lib.hid k5; have K8 := Lib.hid k8
        clear k9 k4 k5 k8 kx krd
        go_wp2_with fail
        refine C3.out.mono ?_
        rintro e w5 ⟨A6, c6, rfl, hrd6, hA6, b5⟩
        have m9 := (b5.block g9 (by omega)).trans K9.out
        obtain ⟨_, _, _, _, p4'⟩ := cell_row5 m9
        have f4 := frozen_row m9 4
        have M9 : Hid ((w5.setCell ⟨g9, 4, none⟩ (.slice A6 (done.length + 1) c6)).heap[g9]? = some (cellRow 1 ⟨0, 0, ⟨#[]⟩⟩ (.slice A6 (done.length + 1) c6))) := by
          show _ = _
          rw [set_row m9 4]; rfl
        have hmod : ∀ g, g ≠ g9 → g < w3.heap.size → (w5.setCell ⟨g9, 4, none⟩ (.slice A6 (done.length + 1) c6)).heap[g]? = w3.heap[g]? := fun g hg hgl => by
          rw [← b5.block g hgl]
          show (w5.heap.modify g9 _)[g]? = _
          rw [Array.getElem?_modify, if_neg (fun e => hg e.symm)]
        have M4 : Hid ((w5.setCell ⟨g9, 4, none⟩ (.slice A6 (done.length + 1) c6)).heap[w.heap.size]? = some (cellRow ka va (.slice (some ⟨b, o, none⟩) n c))) := (hmod w.heap.size (by omega) (by omega)).trans K4.out
        have M5 : Hid ((w5.setCell ⟨g9, 4, none⟩ (.slice A6 (done.length + 1) c6)).heap[g5]? = some (cellRow kb vb (.slice B m d))) := (hmod g5 (by omega) (by omega)).trans K5.out
        have M8 : Hid ((w5.setCell ⟨g9, 4, none⟩ (.slice A6 (done.length + 1) c6)).heap[g8]? = some (cellRow 0 ⟨0, 0, ⟨#[]⟩⟩ (.slice none 0 0))) := (hmod g8 (by omega) (by omega)).trans K8.out
        have MR : Hid (RdP (w5.setCell ⟨g9, 4, none⟩ (.slice A6 (done.length + 1) c6)) A6 (done.length + 1) c6 (insP done x)) := rdg_set hrd6 g9 (fun a ha => by have := hA6 a ha; omega) 4 _
        have MB : Hid (Below w.heap.size w (w5.setCell ⟨g9, 4, none⟩ (.slice A6 (done.length + 1) c6))) := (kb'.trans (b5.mono kb'.size)).setCell lg.2.2.2.2.2.2.1 _
        have MS : w1.heap.size ≤ (w5.setCell ⟨g9, 4, none⟩ (.slice A6 (done.length + 1) c6)).heap.size := by rw [World.size_setCell]; exact Nat.le_trans ks b5.size
        clear m9 hmod hrd6 b5 kb'
        go_wp2_with fail
        exact ⟨⟨k + 1, insP done x, A6, c6, by omega, by go_num, hkeep.out.symm, by rw [insP_len]; exact M9.out, M4, M5, M8, by show RdP _ _ _ _ _; rw [insP_len]; exact MR.out, fun a ha => Nat.le_trans ks (hA6 a ha), MB.out, MS⟩, by simp [intOf]; omega⟩
      | false =>
        cases r2 with
        | true =>
          obtain ⟨k9, k4, k5, k8, kx, krd, kb', ks⟩ := K.out w2 (Below.refl _ _)
          obtain ⟨y0, y1, y2, y3, y4⟩ := cell_row5 k5
          obtain ⟨x0, x1, x2, x3, x4, x5, x6, x7, x8, x9, x10⟩ := part_row kx
          clear k9 k4 k5 k8 kx krd kb' ks
          go_upto_region 6 with fail
          rw [← HW2.out]
          go_wp2_with fail
          refine C1.out.mono ?_
          rintro e w3 ⟨rfl, b3⟩
          obtain ⟨_, _, _, _, kx, _, _, _⟩ := K.out w3 b3
          obtain ⟨_, _, _, z3, z4, _⟩ := part_row kx
          have C3' := Lib.hid (C2.out w3 b3)
          clear kx x0 x1 x2 x3 x4 x5 x6 x7 x8 x9 x10 y0 y1 y2 y3 y4
          go_wp2_with fail
          refine C3'.out.mono ?_
          rintro e w4 ⟨rfl, b4⟩
          have b4' := below_then b3 b4
          clear z3 z4
          have hdrop := Lib.hid (HDrop.out (by unfold joinA; rw [hr1.out, hr2.out]; rfl))
          obtain ⟨k9, k4, k5, k8, kx, krd, kb', ks⟩ := K.out w4 b4'
          have K9 := Lib.hid k9; have K4 := Lib.hid k4; have K5 := Lib.hid k5; have K8 := Lib.hid k8; have KR := Lib.hid krd
          clear k9 k4 k5 k8 kx krd
          go_wp2_with fail
          exact ⟨⟨k + 1, done, A5, c5, by omega, by go_num, hdrop.out.symm, K9.out, K4, K5, K8, KR, hab, kb', ks⟩, by simp [intOf]; omega⟩
        | false =>
          obtain ⟨k9, k4, k5, k8, kx, krd, kb', ks⟩ := K.out w2 (Below.refl _ _)
          obtain ⟨y0, y1, y2, y3, y4⟩ := cell_row5 k5
          obtain ⟨x0, x1, x2, x3, x4, x5, x6, x7, x8, x9, x10⟩ := part_row kx
          clear k9 k4 k5 k8 kx krd kb' ks
          go_upto_region 6 with fail
          rw [← HW2.out]
          go_wp2_with fail
          refine C1.out.mono ?_
          rintro e w3 ⟨rfl, b3⟩
          obtain ⟨_, _, _, _, kx, _, _, _⟩ := K.out w3 b3
          obtain ⟨_, _, _, z3, z4, _⟩ := part_row kx
          have C3' := Lib.hid (C2.out w3 b3)
          clear kx x0 x1 x2 x3 x4 x5 x6 x7 x8 x9 x10 y0 y1 y2 y3 y4
          go_wp2_with fail
          refine C3'.out.mono ?_
          rintro e w4 ⟨rfl, b4⟩
          have b4' := below_then b3 b4
          clear z3 z4
          have hkeep := Lib.hid (HKeep.out (by unfold joinA; rw [hr1.out, hr2.out]; rfl))
          obtain ⟨k9, k4, k5, k8, kx, krd, kb', ks⟩ := K.out w4 b4'
          obtain ⟨_, _, _, _, p4⟩ := cell_row5 k9
          obtain ⟨x0, x1, x2, x3, x4, x5, x6, x7, x8, x9, x10⟩ := part_row kx
          have C3 := Lib.hid (HP.out w4 b4')
          have K9 := Lib.hid k9; have K4 := Lib.hid k4; have K5 := Lib.hid k5; have K8 := Lib.hid k8
          clear k9 k4 k5 k8 kx krd
          go_wp2_with fail
          refine C3.out.mono ?_
          rintro e w5 ⟨A6, c6, rfl, hrd6, hA6, b5⟩
          have m9 := (b5.block g9 (by omega)).trans K9.out
          obtain ⟨_, _, _, _, p4'⟩ := cell_row5 m9
          have f4 := frozen_row m9 4
          have M9 : Hid ((w5.setCell ⟨g9, 4, none⟩ (.slice A6 (done.length + 1) c6)).heap[g9]? = some (cellRow 1 ⟨0, 0, ⟨#[]⟩⟩ (.slice A6 (done.length + 1) c6))) := by
            show _ = _
            rw [set_row m9 4]; rfl
          have hmod : ∀ g, g ≠ g9 → g < w4.heap.size → (w5.setCell ⟨g9, 4, none⟩ (.slice A6 (done.length + 1) c6)).heap[g]? = w4.heap[g]? := fun g hg hgl => by
            rw [← b5.block g hgl]
            show (w5.heap.modify g9 _)[g]? = _
            rw [Array.getElem?_modify, if_neg (fun e => hg e.symm)]
          have M4 : Hid ((w5.setCell ⟨g9, 4, none⟩ (.slice A6 (done.length + 1) c6)).heap[w.heap.size]? = some (cellRow ka va (.slice (some ⟨b, o, none⟩) n c))) := (hmod w.heap.size (by omega) (by omega)).trans K4.out
          have M5 : Hid ((w5.setCell ⟨g9, 4, none⟩ (.slice A6 (done.length + 1) c6)).heap[g5]? = some (cellRow kb vb (.slice B m d))) := (hmod g5 (by omega) (by omega)).trans K5.out
          have M8 : Hid ((w5.setCell ⟨g9, 4, none⟩ (.slice A6 (done.length + 1) c6)).heap[g8]? = some (cellRow 0 ⟨0, 0, ⟨#[]⟩⟩ (.slice none 0 0))) := (hmod g8 (by omega) (by omega)).trans K8.out
          have MR : Hid (RdP (w5.setCell ⟨g9, 4, none⟩ (.slice A6 (done.length + 1) c6)) A6 (done.length + 1) c6 (insP done x)) := rdg_set hrd6 g9 (fun a ha => by have := hA6 a ha; omega) 4 _
          have MB : Hid (Below w.heap.size w (w5.setCell ⟨g9, 4, none⟩ (.slice A6 (done.length + 1) c6))) := (kb'.trans (b5.mono kb'.size)).setCell lg.2.2.2.2.2.2.1 _
          have MS : w1.heap.size ≤ (w5.setCell ⟨g9, 4, none⟩ (.slice A6 (done.length + 1) c6)).heap.size := by rw [World.size_setCell]; exact Nat.le_trans ks b5.size
          clear m9 hmod hrd6 b5 kb'
          go_wp2_with fail
          exact ⟨⟨k + 1, insP done x, A6, c6, by omega, by go_num, hkeep.out.symm, by rw [insP_len]; exact M9.out, M4, M5, M8, by show RdP _ _ _ _ _; rw [insP_len]; exact MR.out, fun a ha => Nat.le_trans ks (hA6 a ha), MB.out, MS⟩, by simp [intOf]; omega⟩
    · obtain ⟨D1, hD1⟩ : ∃ D1, Hid (D1 = (la.filter (joinA lb nb)).foldl insP []) := ⟨_, rfl⟩
      have hfin : Hid (done = D1) := by
        show _ = _
        have h1 := HnA.out
        rw [hd.out, List.take_of_length_le (by omega), hD1.out]
      obtain ⟨A4, c4, e9, erd, eab⟩ : ∃ A4 c4, wr.heap[g9]? = some (cellRow 1 ⟨0, 0, ⟨#[]⟩⟩ (.slice A4 D1.length c4)) ∧ Hid (RdP wr A4 D1.length c4 D1) ∧ Hid (∀ a, A4 = some a → w1.heap.size ≤ a.block) := ⟨A5, c5, by rw [← hfin.out]; exact h9, by show RdP _ _ _ _ _; rw [← hfin.out]; exact hrd.out, hab⟩
      obtain ⟨_, _, _, _, q4⟩ := cell_row5 h4.out
      have e4 := h4; have e5 := h5; have e8 := h8; have ebel := hbel; have esz := hsz
      have hdl1 : D1.length ≤ n := by rw [← hfin.out]; omega
      clear hd h9 h4 h5 h8 hrd hab hbel hsz hfin hdl
      go_wp2_with fail
      clear q4
      go_loopw [12] (fun i wr => ∃ (k : Nat) (done : List P11) (A5 : Option Addr) (c5 : Nat), k ≤ m ∧ i = .int .i64 k ∧ Hid (done = ((lb.take k).filter (joinB la na)).foldl insP D1) ∧ wr.heap[g9]? = some (cellRow 1 ⟨0, 0, ⟨#[]⟩⟩ (.slice A5 done.length c5)) ∧ Hid (wr.heap[w.heap.size]? = some (cellRow ka va (.slice A n c))) ∧ Hid (wr.heap[g5]? = some (cellRow kb vb (.slice B m d))) ∧ Hid (wr.heap[g8]? = some (cellRow 0 ⟨0, 0, ⟨#[]⟩⟩ (.slice none 0 0))) ∧ Hid (RdP wr A5 done.length c5 done) ∧ Hid (∀ a, A5 = some a → w1.heap.size ≤ a.block) ∧ Below w.heap.size w wr ∧ w1.heap.size ≤ wr.heap.size) (fun i _ => m - (intOf i).toNat)
      case atStart => exact ⟨0, D1, A4, c4, Nat.zero_le _, rfl, by show _ = _; simp, e9, e4, e5, e8, erd, eab, ebel, esz⟩
      case round =>
        clear e9 e4 e5 e8 erd eab ebel esz
        obtain ⟨k, done, A5, c5, hk, rfl, hd, h9, h4, h5, h8, hrd, hab, hbel, hsz⟩ := hrel
        have lg := G.out
        have hdl : done.length ≤ D1.length + k := by
          rw [hd.out, foldl_ins_len]
          have := List.length_filter_le (joinB la na) (lb.take k)
          rw [List.length_take] at this
          have h0 : ([] : List P11).length = 0 := rfl
          omega
        by_cases hlt : k < m
        · obtain ⟨b, o, x, rfl, hb, hx, hld⟩ := HLB.out.part hlt
          obtain ⟨c0, c1, c2, c3, c4, c5', c6, c7, c8, c9, c10⟩ := hld wr hbel
          obtain ⟨_, _, _, _, q4⟩ := cell_row5 h5.out
          have l9 : g9 < wr.heap.size := by omega
          have l4 : w.heap.size < wr.heap.size := by omega
          have l8 : g8 < wr.heap.size := by omega
          have l5 : g5 < wr.heap.size := by omega
          obtain ⟨w2, hw2⟩ : ∃ w2, w2 = wr.alloc (partCells x) := ⟨_, rfl⟩
          have B2 : Below wr.heap.size wr w2 := by rw [hw2]; exact below_new (Below.refl _ _) _
          have hnew : w2.heap[wr.heap.size]? = some (partCells x) := by rw [hw2]; exact heap_alloc_new _ _
          have K : Hid (∀ W, Below w2.heap.size w2 W → W.heap[g9]? = some (cellRow 1 ⟨0, 0, ⟨#[]⟩⟩ (.slice A5 done.length c5)) ∧ W.heap[w.heap.size]? = some (cellRow ka va (.slice A n c)) ∧ W.heap[g5]? = some (cellRow kb vb (.slice (some ⟨b, o, none⟩) m d)) ∧ W.heap[g8]? = some (cellRow 0 ⟨0, 0, ⟨#[]⟩⟩ (.slice none 0 0)) ∧ W.heap[wr.heap.size]? = some (partCells x) ∧ RdP W A5 done.length c5 done ∧ Below w.heap.size w W ∧ w1.heap.size ≤ W.heap.size) := by
            intro W hW
            have h1 := below_then B2 hW
            exact ⟨(h1.block g9 l9).trans h9, (h1.block w.heap.size l4).trans h4.out, (h1.block g5 l5).trans h5.out, (h1.block g8 l8).trans h8.out, row_below hnew hW, hrd.out.below h1, below_then hbel (h1.mono (by have := hbel.size; omega)), Nat.le_trans hsz h1.size⟩
          obtain ⟨r1, hr1, C1⟩ : ∃ r, Hid (dotIn la x.d = r) ∧ Hid (Calls Try.prog 26 #[cellV ka va (.slice A n c), .agg #[.int .i64 x.d.d, .int .i64 x.d.s]] w2 fun e w' => e = .returned (.bool r) ∧ Below w2.heap.size w2 w') :=
            ⟨_, rfl, refHas7_any _ _ _ _ _ _ x.d w2 (HLA.out.below (below_then hbel (B2.mono (by have := hbel.size; omega))))⟩
          obtain ⟨r2, hr2, C2⟩ : ∃ r, Hid (knowsV na x.d = r) ∧ Hid (∀ W, Below w2.heap.size w2 W → Calls Try.prog 25 #[.slice C p pc, .agg #[.int .i64 x.d.d, .int .i64 x.d.s]] W fun e w' => e = .returned (.bool r) ∧ Below W.heap.size W w') :=
            ⟨_, rfl, fun W hW => refHas_any _ _ _ _ x.d.d x.d.s W (HKA.out.below (K.out W hW).2.2.2.2.2.2.1)⟩
          have hstep := Lib.hid (filter_step (p := (joinB la na)) hx)
          have HP : Hid (∀ W, Below w2.heap.size w2 W → Calls Try.prog 64 #[.slice A5 done.length c5, x.agg] W fun e w' => ∃ A6 c6, e = .returned (.slice A6 (done.length + 1 : Nat) c6) ∧ RdP w' A6 (done.length + 1) c6 (insP done x) ∧ (∀ a, A6 = some a → W.heap.size ≤ a.block) ∧ Below W.heap.size W w') := by
            intro W hW
            refine (put_any A5 done.length c5 done x W (K.out W hW).2.2.2.2.2.1 (by omega)).mono ?_
            rintro e w' ⟨v, rfl, ho, hb'⟩
            obtain ⟨A6, c6, rfl, hrd6⟩ := RdG.own_ p11len (by omega) ho
            exact ⟨A6, c6, rfl, hrd6, fun a ha => (ho.lt a.block (by rw [ha]; rfl)).1, hb'⟩
          have HKeep : Hid ((joinB la na) x = true → ((lb.take (k + 1)).filter (joinB la na)).foldl insP D1 = insP done x) := by
            intro h
            rw [hstep.out, h, List.foldl_append, ← hd.out]; rfl
          have HDrop : Hid ((joinB la na) x = false → ((lb.take (k + 1)).filter (joinB la na)).foldl insP D1 = done) := by
            intro h
            rw [hstep.out, h, hd.out]; simp
          have HW2 := Lib.hid hw2
          clear hld hx hrd h4 h5 h8 h9 hbel hsz hd hstep B2 hnew hw2
          cases r1 with
          | true =>
            obtain ⟨k9, k4, k5, k8, kx, krd, kb', ks⟩ := K.out w2 (Below.refl _ _)
            obtain ⟨y0, y1, y2, y3, y4⟩ := cell_row5 k4
            obtain ⟨x0, x1, x2, x3, x4, x5, x6, x7, x8, x9, x10⟩ := part_row kx
            clear k9 k4 k5 k8 kx krd kb' ks
            go_upto_region 12 with fail
            rw [← HW2.out]
            go_wp2_with fail
            refine C1.out.mono ?_
            rintro e w3 ⟨rfl, b3⟩
            clear x0 x1 x2 x3 x4 x5 x6 x7 x8 x9 x10 y0 y1 y2 y3 y4
            have hdrop := Lib.hid (HDrop.out (by unfold joinB; rw [hr1.out]; rfl))
            obtain ⟨k9, k4, k5, k8, kx, krd, kb', ks⟩ := K.out w3 b3
            have K9 := Lib.hid k9; have K4 := Lib.hid k4; have K5 := Lib.hid k5; have K8 := Lib.hid k8; have KR := Lib.hid krd
            clear k9 k4 k5 k8 kx krd
            go_wp2_with fail
            exact ⟨⟨k + 1, done, A5, c5, by omega, by go_num, hdrop.out.symm, K9.out, K4, K5, K8, KR, hab, kb', ks⟩, by simp [intOf]; omega⟩
          | false =>
            cases r2 with
            | true =>
              obtain ⟨k9, k4, k5, k8, kx, krd, kb', ks⟩ := K.out w2 (Below.refl _ _)
              obtain ⟨y0, y1, y2, y3, y4⟩ := cell_row5 k4
              obtain ⟨x0, x1, x2, x3, x4, x5, x6, x7, x8, x9, x10⟩ := part_row kx
              clear k9 k4 k5 k8 kx krd kb' ks
              go_upto_region 12 with fail
              rw [← HW2.out]
              go_wp2_with fail
              refine C1.out.mono ?_
              rintro e w3 ⟨rfl, b3⟩
              obtain ⟨_, _, _, _, kx, _, _, _⟩ := K.out w3 b3
              obtain ⟨_, _, _, z3, z4, _⟩ := part_row kx
              have C3' := Lib.hid (C2.out w3 b3)
              clear kx x0 x1 x2 x3 x4 x5 x6 x7 x8 x9 x10 y0 y1 y2 y3 y4
              go_wp2_with fail
              refine C3'.out.mono ?_
              rintro e w4 ⟨rfl, b4⟩
              have b4' := below_then b3 b4
              clear z3 z4
              have hdrop := Lib.hid (HDrop.out (by unfold joinB; rw [hr1.out, hr2.out]; rfl))
              obtain ⟨k9, k4, k5, k8, kx, krd, kb', ks⟩ := K.out w4 b4'
              have K9 := Lib.hid k9; have K4 := Lib.hid k4; have K5 := Lib.hid k5; have K8 := Lib.hid k8; have KR := Lib.hid krd
              clear k9 k4 k5 k8 kx krd
              go_wp2_with fail
              exact ⟨⟨k + 1, done, A5, c5, by omega, by go_num, hdrop.out.symm, K9.out, K4, K5, K8, KR, hab, kb', ks⟩, by simp [intOf]; omega⟩
            | false =>
              obtain ⟨k9, k4, k5, k8, kx, krd, kb', ks⟩ := K.out w2 (Below.refl _ _)
              obtain ⟨y0, y1, y2, y3, y4⟩ := cell_row5 k4
              obtain ⟨x0, x1, x2, x3, x4, x5, x6, x7, x8, x9, x10⟩ := part_row kx
              clear k9 k4 k5 k8 kx krd kb' ks
              go_upto_region 12 with fail
              rw [← HW2.out]
              go_wp2_with fail
              refine C1.out.mono ?_
              rintro e w3 ⟨rfl, b3⟩
              obtain ⟨_, _, _, _, kx, _, _, _⟩ := K.out w3 b3
              obtain ⟨_, _, _, z3, z4, _⟩ := part_row kx
              have C3' := Lib.hid (C2.out w3 b3)
              clear kx x0 x1 x2 x3 x4 x5 x6 x7 x8 x9 x10 y0 y1 y2 y3 y4
              go_wp2_with fail
              refine C3'.out.mono ?_
              rintro e w4 ⟨rfl, b4⟩
              have b4' := below_then b3 b4
              clear z3 z4
              have hkeep := Lib.hid (HKeep.out (by unfold joinB; rw [hr1.out, hr2.out]; rfl))
              obtain ⟨k9, k4, k5, k8, kx, krd, kb', ks⟩ := K.out w4 b4'
              obtain ⟨_, _, _, _, p4⟩ := cell_row5 k9
              obtain ⟨x0, x1, x2, x3, x4, x5, x6, x7, x8, x9, x10⟩ := part_row kx
              have C3 := Lib.hid (HP.out w4 b4')
              have K9 := Lib.hid k9; have K4 := Lib.hid k4; have K5 := Lib.hid k5; have K8 := Lib.hid k8
              clear k9 k4 k5 k8 kx krd
              go_wp2_with fail
              refine C3.out.mono ?_
              rintro e w5 ⟨A6, c6, rfl, hrd6, hA6, b5⟩
              have m9 := (b5.block g9 (by omega)).trans K9.out
              obtain ⟨_, _, _, _, p4'⟩ := cell_row5 m9
              have f4 := frozen_row m9 4
              have M9 : Hid ((w5.setCell ⟨g9, 4, none⟩ (.slice A6 (done.length + 1) c6)).heap[g9]? = some (cellRow 1 ⟨0, 0, ⟨#[]⟩⟩ (.slice A6 (done.length + 1) c6))) := by
                show _ = _
                rw [set_row m9 4]; rfl
              have hmod : ∀ g, g ≠ g9 → g < w4.heap.size → (w5.setCell ⟨g9, 4, none⟩ (.slice A6 (done.length + 1) c6)).heap[g]? = w4.heap[g]? := fun g hg hgl => by
                rw [← b5.block g hgl]
                show (w5.heap.modify g9 _)[g]? = _
                rw [Array.getElem?_modify, if_neg (fun e => hg e.symm)]
              have M4 : Hid ((w5.setCell ⟨g9, 4, none⟩ (.slice A6 (done.length + 1) c6)).heap[w.heap.size]? = some (cellRow ka va (.slice A n c))) := (hmod w.heap.size (by omega) (by omega)).trans K4.out
              have M5 : Hid ((w5.setCell ⟨g9, 4, none⟩ (.slice A6 (done.length + 1) c6)).heap[g5]? = some (cellRow kb vb (.slice (some ⟨b, o, none⟩) m d))) := (hmod g5 (by omega) (by omega)).trans K5.out
              have M8 : Hid ((w5.setCell ⟨g9, 4, none⟩ (.slice A6 (done.length + 1) c6)).heap[g8]? = some (cellRow 0 ⟨0, 0, ⟨#[]⟩⟩ (.slice none 0 0))) := (hmod g8 (by omega) (by omega)).trans K8.out
              have MR : Hid (RdP (w5.setCell ⟨g9, 4, none⟩ (.slice A6 (done.length + 1) c6)) A6 (done.length + 1) c6 (insP done x)) := rdg_set hrd6 g9 (fun a ha => by have := hA6 a ha; omega) 4 _
              have MB : Hid (Below w.heap.size w (w5.setCell ⟨g9, 4, none⟩ (.slice A6 (done.length + 1) c6))) := (kb'.trans (b5.mono kb'.size)).setCell lg.2.2.2.2.2.2.1 _
              have MS : w1.heap.size ≤ (w5.setCell ⟨g9, 4, none⟩ (.slice A6 (done.length + 1) c6)).heap.size := by rw [World.size_setCell]; exact Nat.le_trans ks b5.size
              clear m9 hmod hrd6 b5 kb'
              go_wp2_with fail
              exact ⟨⟨k + 1, insP done x, A6, c6, by omega, by go_num, hkeep.out.symm, by rw [insP_len]; exact M9.out, M4, M5, M8, by show RdP _ _ _ _ _; rw [insP_len]; exact MR.out, fun a ha => Nat.le_trans ks (hA6 a ha), MB.out, MS⟩, by simp [intOf]; omega⟩
        · have hfin : Hid (done = F) := by
            show _ = _
            have h1 := HnB.out
            rw [hd.out, List.take_of_length_le (by omega), HF.out, hD1.out]
          obtain ⟨q0, q1, q2, q3, q4⟩ := cell_row5 h9
          obtain ⟨r0, r1, r2, r3, r4⟩ := cell_row5 h8.out
          have f0 := frozen_row h8.out
          obtain ⟨_, _, _, _, p5⟩ := cell_row5 h5.out
          go_wp2_with fail
          refine bodyPost_ret (v := cellV 1 ⟨0, 0, ⟨#[]⟩⟩ (.slice A5 done.length c5)) (results_cell_row rfl _ _ g8 26 _ (0, 0) _ rfl (set5 h8.out) Try.underlying26 rfl (by kernel_rfl)) rfl ?_
          rw [← hfin.out]
          have lg := G.out
          refine ⟨A5, c5, rfl, ?_, ((((hbel.setCell lg.2.2.2.2.2.1 _).setCell lg.2.2.2.2.2.1 _).setCell lg.2.2.2.2.2.1 _).setCell lg.2.2.2.2.2.1 _).setCell lg.2.2.2.2.2.1 _⟩
          have hA : ∀ a, A5 = some a → a.block ≠ g8 := fun a ha => by have := hab.out a ha; omega
          exact rdg_set (rdg_set (rdg_set (rdg_set (rdg_set hrd.out _ hA 0 _) _ hA 1 _) _ hA 2 _) _ hA 3 _) _ hA 4 _
end Go.Proofs.Ytieaobeidlhefaa

namespace Go.Proofs.Ytieaobeidlhefaa
set_option maxRecDepth 100000
open Go.RowKit Srt

/-- the boxes of a call of the document's Write -/
def rwBoxes (k : Int) (v0 : V3) (s : Value) (v : V3) (d : D2) (w : World) : World :=
  ((((w.alloc (cellRow k v0 s)).alloc (valRow v)).alloc (dotRow d)).alloc (cellRow 0 ⟨0, 0, ⟨#[]⟩⟩ (.slice none 0 0))).alloc (cellRow k v0 (.slice none 0 0))
theorem rwBoxes_is (k : Int) (v0 : V3) (s : Value) (v : V3) (d : D2) (w : World) :
    (rwBoxes k v0 s v d w).heap.size = w.heap.size + 5 ∧ Below w.heap.size w (rwBoxes k v0 s v d w)
    ∧ (rwBoxes k v0 s v d w).heap[w.heap.size]? = some (cellRow k v0 s) ∧ (rwBoxes k v0 s v d w).heap[w.heap.size + 1]? = some (valRow v) ∧ (rwBoxes k v0 s v d w).heap[w.heap.size + 1 + 1]? = some (dotRow d)
    ∧ (rwBoxes k v0 s v d w).heap[w.heap.size + 1 + 1 + 1]? = some (cellRow 0 ⟨0, 0, ⟨#[]⟩⟩ (.slice none 0 0)) ∧ (rwBoxes k v0 s v d w).heap[w.heap.size + 1 + 1 + 1 + 1]? = some (cellRow k v0 (.slice none 0 0)) := by
  have hat : ∀ (w : World) (o : Obj) (g : Nat), w.heap.size = g → (w.alloc o).heap[g]? = some o := fun w o g h => by subst h; exact heap_alloc_new _ _
  refine ⟨by simp [rwBoxes], ?_, ?_, ?_, ?_, ?_, ?_⟩
  · exact below_new (below_new (below_new (below_new (below_new (Below.refl _ _) _) _) _) _) _
  · rw [rwBoxes, Below.heap_alloc _ _ _ (by simp only [World.size_alloc]; omega), Below.heap_alloc _ _ _ (by simp only [World.size_alloc]; omega), Below.heap_alloc _ _ _ (by simp only [World.size_alloc]; omega), Below.heap_alloc _ _ _ (by simp only [World.size_alloc]; omega)]; exact hat _ _ _ rfl
  · rw [rwBoxes, Below.heap_alloc _ _ _ (by simp only [World.size_alloc]; omega), Below.heap_alloc _ _ _ (by simp only [World.size_alloc]; omega), Below.heap_alloc _ _ _ (by simp only [World.size_alloc]; omega)]; exact hat _ _ _ (by simp)
  · rw [rwBoxes, Below.heap_alloc _ _ _ (by simp only [World.size_alloc]; omega), Below.heap_alloc _ _ _ (by simp only [World.size_alloc]; omega)]; exact hat _ _ _ (by simp)
  · rw [rwBoxes, Below.heap_alloc _ _ _ (by simp)]; exact hat _ _ _ (by simp)
  · exact hat _ _ _ (by simp)

/-- how the document's Write stands: its boxes, and what it has put out so far -/
structure OutW (ka : Int) (va : V3) (S : Value) (v : V3) (d : D2) (g4 g5 g6 g8 g9 B0 : Nat) (w0 : World) (A5 : Option Addr) (c5 : Nat) (done : List P11) (W : World) : Prop where
  o9 : W.heap[g9]? = some (cellRow ka va (.slice A5 done.length c5))
  o4 : W.heap[g4]? = some (cellRow ka va S)
  o5 : W.heap[g5]? = some (valRow v)
  o6 : W.heap[g6]? = some (dotRow d)
  o8 : W.heap[g8]? = some (cellRow 0 ⟨0, 0, ⟨#[]⟩⟩ (.slice none 0 0))
  own : W.ownsRow B0 32 11 (.slice A5 done.length c5) done.length (done.flatMap P11.cells)
  bel : Below w0.heap.size w0 W
  siz : B0 ≤ W.heap.size
structure OutG (g4 g5 g6 g8 g9 B0 : Nat) (w0 : World) : Prop where
  l4 : g4 < B0
  l5 : g5 < B0
  l6 : g6 < B0
  l8 : g8 < B0
  l9 : g9 < B0
  n4 : g4 ≠ g9
  n5 : g5 ≠ g9
  n6 : g6 ≠ g9
  n8 : g8 ≠ g9
  m9 : w0.heap.size ≤ g9
  m8 : w0.heap.size ≤ g8
  mB : w0.heap.size ≤ B0
theorem lt_of_row {w : World} {g : Nat} {o : Obj} (h : w.heap[g]? = some o) : g < w.heap.size := by
  rcases Nat.lt_or_ge g w.heap.size with h1 | h1
  · exact h1
  · rw [Array.getElem?_eq_none h1] at h; exact nomatch h
section
variable {ka : Int} {va : V3} {S : Value} {v : V3} {d : D2} {g4 g5 g6 g8 g9 B0 : Nat} {w0 : World} {A5 : Option Addr} {c5 : Nat} {done : List P11} {W W' : World}
theorem OutW.below (h : OutW ka va S v d g4 g5 g6 g8 g9 B0 w0 A5 c5 done W) (g : OutG g4 g5 g6 g8 g9 B0 w0) (hb : Below W.heap.size W W') : OutW ka va S v d g4 g5 g6 g8 g9 B0 w0 A5 c5 done W' where
  o9 := (hb.block g9 (Nat.lt_of_lt_of_le g.l9 h.siz)).trans h.o9
  o4 := (hb.block g4 (Nat.lt_of_lt_of_le g.l4 h.siz)).trans h.o4
  o5 := (hb.block g5 (Nat.lt_of_lt_of_le g.l5 h.siz)).trans h.o5
  o6 := (hb.block g6 (Nat.lt_of_lt_of_le g.l6 h.siz)).trans h.o6
  o8 := (hb.block g8 (Nat.lt_of_lt_of_le g.l8 h.siz)).trans h.o8
  own := own_below h.own hb
  bel := below_then h.bel hb
  siz := Nat.le_trans h.siz hb.size
theorem OutW.put (h : OutW ka va S v d g4 g5 g6 g8 g9 B0 w0 A5 c5 done W) (g : OutG g4 g5 g6 g8 g9 B0 w0) {A6 : Option Addr} {c6 : Nat} {t : P11} (hb : Below B0 W W') (hs : B0 ≤ W'.heap.size)
    (ho : W'.ownsRow B0 32 11 (.slice A6 (done.length + 1) c6) (done.length + 1) ((done ++ [t]).flatMap P11.cells)) : OutW ka va S v d g4 g5 g6 g8 g9 B0 w0 A6 c6 (done ++ [t]) (W'.setCell ⟨g9, 4, none⟩ (.slice A6 (done.length + 1) c6)) := by
  have hm : ∀ q, q ≠ g9 → q < B0 → (W'.setCell ⟨g9, 4, none⟩ (.slice A6 (done.length + 1) c6)).heap[q]? = W.heap[q]? := fun q hq hqb => by
    rw [← hb.block q hqb]
    show (W'.heap.modify g9 _)[q]? = _
    rw [Array.getElem?_modify, if_neg (fun e => hq e.symm)]
  have hl : (done ++ [t]).length = done.length + 1 := by simp
  have h9 := (hb.block g9 g.l9).trans h.o9
  refine ⟨?_, (hm g4 g.n4 g.l4).trans h.o4, (hm g5 g.n5 g.l5).trans h.o5, (hm g6 g.n6 g.l6).trans h.o6, (hm g8 g.n8 g.l8).trans h.o8, ?_, ?_, by rw [World.size_setCell]; exact hs⟩
  · rw [hl, set_row h9 4]; rfl
  · rw [hl]; exact own_set ho g9 4 _ g.l9
  · exact (h.bel.trans (hb.mono g.mB)).setCell g.m9 _
end

set_option maxHeartbeats 6400000 in
theorem refWrite_any (ka : Int) (va : V3) (A : Option Addr) (n c : Nat) (l : List P11) (v : V3) (d : D2) (D : Option Addr) (q qc : Nat) (kn : List Int) (w : World)
    (ha : RdP w A n c l) (hn : n ≤ 4294967000) (hkb : Rd w D q qc (vals .i64 kn)) :
    Calls Try.prog 21 #[cellV ka va (.slice A n c), v.agg, d.agg, .slice D q qc] w fun e w' =>
      ∃ A' c', e = .returned (cellV ka va (.slice A' (writeL l v d kn).length c')) ∧ RdP w' A' (writeL l v d kn).length c' (writeL l v d kn) ∧ Below w.heap.size w w' := by
  obtain ⟨w1, hw1⟩ : ∃ w1, w1 = rwBoxes ka va (.slice A n c) v d w := ⟨_, rfl⟩
  obtain ⟨hs1, hb1, h4, h5, h6, h8, h9⟩ := rwBoxes_is ka va (.slice A n c) v d w
  rw [← hw1] at hs1 hb1 h4 h5 h6 h8 h9
  obtain ⟨F, hF⟩ : ∃ F, Hid (F = writeL l v d kn) := ⟨_, rfl⟩
  have HF : Hid (F = insP (l.filter (keptW d kn)) (part0 v d)) := by show _ = _; rw [hF.out, writeL]
  rw [← hF.out]
  have HLA := Lib.hid ha; have HKB := Lib.hid hkb
  have HnA := Lib.hid ha.len
  have hle := ha.le
  have G : OutG w.heap.size (w.heap.size + 1) (w.heap.size + 1 + 1) (w.heap.size + 1 + 1 + 1) (w.heap.size + 1 + 1 + 1 + 1) w1.heap.size w := by refine ⟨?_, ?_, ?_, ?_, ?_, ?_, ?_, ?_, ?_, ?_, ?_, ?_⟩ <;> omega
  have hown0 : w1.ownsRow w1.heap.size 32 11 (.slice none ([] : List P11).length 0) ([] : List P11).length (([] : List P11).flatMap P11.cells) := ⟨rfl, .inl ⟨rfl, rfl⟩⟩
  have H0 : Hid (OutW ka va (.slice A n c) v d w.heap.size (w.heap.size + 1) (w.heap.size + 1 + 1) (w.heap.size + 1 + 1 + 1) (w.heap.size + 1 + 1 + 1 + 1) w1.heap.size w none 0 [] w1) := ⟨h9, h4, h5, h6, h8, hown0, hb1, Nat.le_refl _⟩
  have HG := Lib.hid G
  obtain ⟨a0, a1, a2, a3, a4⟩ := cell_row5 h4
  unfold rwBoxes at hw1
  clear ha hkb h4 h5 h6 h8 h9 hs1 hb1 hF hown0 G
  go_enter Try.func21, Try.ntmps21
  go_wp2_with fail
  rw [← hw1]
  clear hw1 a0 a1 a2 a3 a4
  generalize w.heap.size + 1 + 1 + 1 + 1 = g9 at H0 HG ⊢
  generalize w.heap.size + 1 + 1 + 1 = g8 at H0 HG ⊢
  generalize w.heap.size + 1 + 1 = g6 at H0 HG ⊢
  generalize w.heap.size + 1 = g5 at H0 HG ⊢
  go_loopw [10, 11] (fun u i wr => ∃ (k : Nat) (laid : Bool) (done : List P11) (A5 : Option Addr) (c5 : Nat), k ≤ n ∧ i = .int .i64 k ∧ u = .bool laid ∧ Hid (Putting ((l.take k).filter (keptW d kn)) (part0 v d) laid done) ∧ Hid (OutW ka va (.slice A n c) v d w.heap.size g5 g6 g8 g9 w1.heap.size w A5 c5 done wr)) (fun _ i _ => n - (intOf i).toNat)
  case atStart => exact ⟨0, false, [], none, 0, Nat.zero_le _, rfl, rfl, by show Putting _ _ _ _; rw [List.take_zero]; exact Putting.start _, H0⟩
  case round =>
    clear H0
    obtain ⟨k, laid, done, A5, c5, hk, rfl, rfl, hP, hR⟩ := hrel
    have hdl : done.length ≤ k + 1 := by
      have h1 := hP.out.len
      have h2 := List.length_filter_le (keptW d kn) (l.take k)
      rw [List.length_take] at h2
      omega
    by_cases hlt : k < n
    · obtain ⟨b, o, x, rfl, hb, hx, hld⟩ := HLA.out.part hlt
      obtain ⟨c0, c1, c2, c3, c4, c5', c6, c7, c8, c9, c10⟩ := hld wr hR.out.bel
      obtain ⟨_, _, _, _, q4⟩ := cell_row5 hR.out.o4
      obtain ⟨w2, hw2⟩ : ∃ w2, w2 = wr.alloc (partCells x) := ⟨_, rfl⟩
      have B2 : Below wr.heap.size wr w2 := by rw [hw2]; exact below_new (Below.refl _ _) _
      have hnew : w2.heap[wr.heap.size]? = some (partCells x) := by rw [hw2]; exact heap_alloc_new _ _
      have K : Hid (∀ W, Below w2.heap.size w2 W → W.heap[wr.heap.size]? = some (partCells x) ∧ OutW ka va (.slice (some ⟨b, o, none⟩) n c) v d w.heap.size g5 g6 g8 g9 w1.heap.size w A5 c5 done W) := by
        intro W hW
        exact ⟨row_below hnew hW, hR.out.below HG.out (below_then B2 hW)⟩
      have HWS : Hid (w1.heap.size ≤ wr.heap.size) := hR.out.siz
      have HO : Hid ((Value.slice A5 done.length c5).ownBlock ≠ some wr.heap.size) := fun e => by have := (hR.out.own.lt _ e).2; omega
      obtain ⟨r2, hr2, C2⟩ : ∃ r, Hid (knowsV kn x.d = r) ∧ Hid (Calls Try.prog 25 #[.slice D q qc, .agg #[.int .i64 x.d.d, .int .i64 x.d.s]] w2 fun e w' => e = .returned (.bool r) ∧ Below w2.heap.size w2 w') :=
        ⟨_, rfl, refHas_any _ _ _ _ x.d.d x.d.s w2 (HKB.out.below (K.out w2 (Below.refl _ _)).2.bel)⟩
      obtain ⟨r3, hr3, C3⟩ : ∃ r, Hid (aboveD x.d d = r) ∧ Hid (∀ W, Calls Try.prog 53 #[.agg #[.int .i64 x.d.d, .int .i64 x.d.s], .agg #[.int .i64 d.d, .int .i64 d.s]] W fun e w' => e = .returned (.bool r) ∧ Below W.heap.size W w') :=
        ⟨_, rfl, fun W => above_any x.d d W⟩
      have EQ := fun W => run_equalIn_dot x.d.d x.d.s d.d d.s W
      have hstep := Lib.hid (filter_step (p := keptW d kn) hx)
      have HDrop : Hid (keptW d kn x = false → Putting ((l.take (k + 1)).filter (keptW d kn)) (part0 v d) laid done) := by
        intro h
        rw [hstep.out, h]; simpa using hP.out
      have HKeep : Hid (keptW d kn x = true → (l.take (k + 1)).filter (keptW d kn) = (l.take k).filter (keptW d kn) ++ [x]) := by
        intro h
        rw [hstep.out, h]; rfl
      have HW2 := Lib.hid hw2
      clear hld hx hstep B2 hnew hw2 hR
      by_cases he : x.d = d
      · have hdrop := Lib.hid (HDrop.out (by simp [keptW, he]))
        rw [show (decide ((⟨x.d.d, x.d.s⟩ : D2) = ⟨d.d, d.s⟩)) = true from decide_eq_true he] at EQ
        clear he
        obtain ⟨kx, oo⟩ := K.out w2 (Below.refl _ _)
        obtain ⟨_, _, _, x3, x4, _⟩ := part_row kx
        obtain ⟨d0, d1⟩ := dot_row oo.o6
        clear kx oo
        go_upto_region 7 with fail
        rw [← HW2.out]
        obtain ⟨kx, oo⟩ := K.out w2 (Below.refl _ _)
        have OO := Lib.hid oo
        clear kx oo
        go_wp2_with fail
        exact ⟨⟨k + 1, laid, done, A5, c5, by omega, by go_num, rfl, hdrop, OO⟩, by simp [intOf]; omega⟩
      · have hne := Lib.hid he
        rw [show (decide ((⟨x.d.d, x.d.s⟩ : D2) = ⟨d.d, d.s⟩)) = false from decide_eq_false he] at EQ
        clear he
        cases r2 with
        | true =>
          have hdrop := Lib.hid (HDrop.out (by simp [keptW, hne.out, hr2.out]))
          obtain ⟨kx, oo⟩ := K.out w2 (Below.refl _ _)
          obtain ⟨_, _, _, x3, x4, _⟩ := part_row kx
          obtain ⟨d0, d1⟩ := dot_row oo.o6
          clear kx oo
          go_upto_region 7 with fail
          rw [← HW2.out]
          go_wp2_with fail
          refine C2.out.mono ?_
          rintro e w3 ⟨rfl, b3⟩
          clear x3 x4 d0 d1 c0 c1 c2 c3 c4 c5' c6 c7 c8 c9 c10 q4
          obtain ⟨kx, oo⟩ := K.out w3 b3
          have OO := Lib.hid oo
          clear kx oo
          go_wp2_with fail
          exact ⟨⟨k + 1, laid, done, A5, c5, by omega, by go_num, rfl, hdrop, OO⟩, by simp [intOf]; omega⟩
        | false =>
          have hkeep := Lib.hid (HKeep.out (by simp [keptW, hne.out, hr2.out]))
          cases laid with
          | true =>
            have hP2 : Hid (Putting ((l.take (k + 1)).filter (keptW d kn)) (part0 v d) true (done ++ [x])) := by show Putting _ _ _ _; rw [hkeep.out]; exact hP.out.go
            obtain ⟨kx, oo⟩ := K.out w2 (Below.refl _ _)
            obtain ⟨_, _, _, x3, x4, _⟩ := part_row kx
            obtain ⟨d0, d1⟩ := dot_row oo.o6
            clear kx oo
            go_upto_region 7 with fail
            rw [← HW2.out]
            go_wp2_with fail
            refine C2.out.mono ?_
            rintro e w3 ⟨rfl, b3⟩
            clear x3 x4 d0 d1 c0 c1 c2 c3 c4 c5' c6 c7 c8 c9 c10 q4
            obtain ⟨kx, oo⟩ := K.out w3 b3
            obtain ⟨_, _, _, _, p4⟩ := cell_row5 oo.o9
            obtain ⟨x0, x1, x2, x3, x4, x5, x6, x7, x8, x9, x10⟩ := part_row kx
            have OO := Lib.hid oo
            clear kx oo
            go_wp2_with (at_builtin; refine wpList_pushP (W0 := w3) rfl (.tmp 57) (.tmp 59) rfl w1.heap.size _ _ done x w3.heap.size rfl rfl rfl OO.out.own (by first | omega | (simp; omega)) (Below.refl _ _) OO.out.siz ?_; intro v3 w5 hown5 hb5 hs5; obtain ⟨A6, c6, rfl, _⟩ := RdG.own_ (l := done ++ [x]) p11len (by omega) hown5; have k9' := (hb5.block g9 HG.out.l9).trans OO.out.o9; obtain ⟨_, _, _, _, p4'⟩ := cell_row5 k9'; have f4 := frozen_row k9' 4; have HP5 := Lib.hid (OO.out.put HG.out hb5 hs5 hown5); clear k9' hown5 hb5 hs5)
            exact ⟨⟨k + 1, true, done ++ [x], A6, c6, by omega, by go_num, rfl, hP2, HP5⟩, by simp [intOf]; omega⟩
          | false =>
            cases r3 with
            | false =>
              have hP2 : Hid (Putting ((l.take (k + 1)).filter (keptW d kn)) (part0 v d) false (done ++ [x])) := by show Putting _ _ _ _; rw [hkeep.out]; exact hP.out.pass hr3.out
              obtain ⟨kx, oo⟩ := K.out w2 (Below.refl _ _)
              obtain ⟨_, _, _, x3, x4, _⟩ := part_row kx
              obtain ⟨d0, d1⟩ := dot_row oo.o6
              clear kx oo
              go_upto_region 7 with fail
              rw [← HW2.out]
              go_wp2_with fail
              refine C2.out.mono ?_
              rintro e w3 ⟨rfl, b3⟩
              clear x3 x4 d0 d1 c0 c1 c2 c3 c4 c5' c6 c7 c8 c9 c10 q4
              obtain ⟨kx, oo⟩ := K.out w3 b3
              obtain ⟨_, _, _, x3, x4, _⟩ := part_row kx
              obtain ⟨d0, d1⟩ := dot_row oo.o6
              clear kx oo
              go_wp2_with fail
              refine (C3.out w3).mono ?_
              rintro e w4 ⟨rfl, b4⟩
              have b4' := below_then b3 b4
              clear x3 x4 d0 d1
              obtain ⟨kx, oo⟩ := K.out w4 b4'
              obtain ⟨_, _, _, _, p4⟩ := cell_row5 oo.o9
              obtain ⟨x0, x1, x2, x3, x4, x5, x6, x7, x8, x9, x10⟩ := part_row kx
              have OO := Lib.hid oo
              clear kx oo
              go_wp2_with (at_builtin; refine wpList_pushP (W0 := w4) rfl (.tmp 57) (.tmp 59) rfl w1.heap.size _ _ done x w4.heap.size rfl rfl rfl OO.out.own (by first | omega | (simp; omega)) (Below.refl _ _) OO.out.siz ?_; intro v3 w5 hown5 hb5 hs5; obtain ⟨A6, c6, rfl, _⟩ := RdG.own_ (l := done ++ [x]) p11len (by omega) hown5; have k9' := (hb5.block g9 HG.out.l9).trans OO.out.o9; obtain ⟨_, _, _, _, p4'⟩ := cell_row5 k9'; have f4 := frozen_row k9' 4; have HP5 := Lib.hid (OO.out.put HG.out hb5 hs5 hown5); clear k9' hown5 hb5 hs5)
              exact ⟨⟨k + 1, false, done ++ [x], A6, c6, by omega, by go_num, rfl, hP2, HP5⟩, by simp [intOf]; omega⟩
            | true =>
              have hP2 : Hid (Putting ((l.take (k + 1)).filter (keptW d kn)) (part0 v d) true (done ++ [part0 v d] ++ [x])) := by show Putting _ _ _ _; rw [hkeep.out]; exact hP.out.lay hr3.out
              obtain ⟨kx, oo⟩ := K.out w2 (Below.refl _ _)
              obtain ⟨_, _, _, x3, x4, _⟩ := part_row kx
              obtain ⟨d0, d1⟩ := dot_row oo.o6
              clear kx oo
              go_upto_region 7 with fail
              rw [← HW2.out]
              go_wp2_with fail
              refine C2.out.mono ?_
              rintro e w3 ⟨rfl, b3⟩
              clear x3 x4 d0 d1 c0 c1 c2 c3 c4 c5' c6 c7 c8 c9 c10 q4
              obtain ⟨kx, oo⟩ := K.out w3 b3
              obtain ⟨_, _, _, x3, x4, _⟩ := part_row kx
              obtain ⟨d0, d1⟩ := dot_row oo.o6
              clear kx oo
              go_wp2_with fail
              refine (C3.out w3).mono ?_
              rintro e w4 ⟨rfl, b4⟩
              have b4' := below_then b3 b4
              clear x3 x4 d0 d1
              obtain ⟨kx, oo⟩ := K.out w4 b4'
              obtain ⟨_, _, _, _, p4⟩ := cell_row5 oo.o9
              obtain ⟨x0, x1, x2, x3, x4, x5, x6, x7, x8, x9, x10⟩ := part_row kx
              obtain ⟨y0, y1, y2⟩ := val_row oo.o5
              obtain ⟨d0, d1⟩ := dot_row oo.o6
              have OO := Lib.hid oo
              have KX := Lib.hid kx
              clear kx oo
              go_upto_region 10 with (at_builtin; refine wpList_pushP2 (W0 := w4) rfl (.tmp 49) (.tmp 53) rfl w1.heap.size _ _ done (part0 v d) w4.heap.size rfl rfl rfl OO.out.own (by first | omega | (simp; omega)) (Below.refl _ _) OO.out.siz ?_; intro v3 w5 hown5 hb5 hs5 hfa5; obtain ⟨A6, c6, rfl, _⟩ := RdG.own_ (l := done ++ [(part0 v d)]) p11len (by omega) hown5; have k9' := (hb5.block g9 HG.out.l9).trans OO.out.o9; obtain ⟨_, _, _, _, p4'⟩ := cell_row5 k9'; have f4 := frozen_row k9' 4; have HP5 := Lib.hid (OO.out.put HG.out hb5 hs5 hown5); have hx5 := Lib.hid ((hfa5 wr.heap.size (lt_of_row (K.out w4 b4').1) (HO.out)).trans KX.out); clear k9' hown5 hb5 hs5 hfa5)
              have hx6 : (w5.setCell ⟨g9, 4, none⟩ (.slice A6 (done.length + 1) c6)).heap[wr.heap.size]? = some (partCells x) := by
                have hn : g9 ≠ wr.heap.size := by have := HG.out.l9; have := HWS.out; omega
                show (w5.heap.modify g9 _)[wr.heap.size]? = _
                rw [Array.getElem?_modify, if_neg hn]
                exact hx5.out
              clear p4 x0 x1 x2 x3 x4 x5 x6 x7 x8 x9 x10 y0 y1 y2 d0 d1 p4' f4 hx5
              generalize w5.setCell ⟨g9, 4, none⟩ (.slice A6 (done.length + 1) c6) = W6 at HP5 hx6 ⊢
              obtain ⟨D1, hD1⟩ : ∃ D1, Hid (D1 = done ++ [part0 v d]) := ⟨_, rfl⟩
              have hdl1 : D1.length ≤ k + 2 := by rw [hD1.out]; simp; omega
              have HP7 : Hid (OutW ka va (.slice (some ⟨b, o, none⟩) n c) v d w.heap.size g5 g6 g8 g9 w1.heap.size w A6 c6 D1 W6) := by show OutW _ _ _ _ _ _ _ _ _ _ _ _ _ _ _ _; rw [hD1.out]; exact HP5.out
              have hP3 : Hid (Putting ((l.take (k + 1)).filter (keptW d kn)) (part0 v d) true (D1 ++ [x])) := by show Putting _ _ _ _; rw [hD1.out]; exact hP2.out
              clear HP5 hP2
              obtain ⟨_, _, _, _, p4⟩ := cell_row5 HP7.out.o9
              obtain ⟨x0, x1, x2, x3, x4, x5, x6, x7, x8, x9, x10⟩ := part_row hx6
              clear hx6
              go_wp2_with (at_builtin; refine wpList_pushP (W0 := W6) rfl (.tmp 57) (.tmp 59) rfl w1.heap.size _ _ D1 x W6.heap.size rfl rfl rfl HP7.out.own (by first | omega | (simp; omega)) (Below.refl _ _) HP7.out.siz ?_; intro v3 w5 hown5 hb5 hs5; obtain ⟨A7, c7, rfl, _⟩ := RdG.own_ (l := D1 ++ [x]) p11len (by omega) hown5; have k9' := (hb5.block g9 HG.out.l9).trans HP7.out.o9; obtain ⟨_, _, _, _, p4'⟩ := cell_row5 k9'; have f4 := frozen_row k9' 4; have HP6 := Lib.hid (HP7.out.put HG.out hb5 hs5 hown5); clear k9' hown5 hb5 hs5)
              exact ⟨⟨k + 1, true, D1 ++ [x], A7, c7, by omega, by go_num, rfl, hP3, HP6⟩, by simp [intOf]; omega⟩
    · have hflt : Hid (l.take k = l) := by
        show _ = _
        have h1 := HnA.out
        exact List.take_of_length_le (by omega)
      cases laid with
      | true =>
        have hfin : Hid (done = F) := by
          show _ = _
          have h2 := hP.out.done_
          rw [hflt.out] at h2
          rw [h2, HF.out]
        clear hP hflt
        obtain ⟨A8, c8, he8, hrd⟩ := RdG.own_ (l := done) p11len (by omega) hR.out.own
        have hlt8 := hR.out.own.lt
        obtain ⟨r0, r1, r2, r3, r4⟩ := cell_row5 hR.out.o8
        have f0 := frozen_row hR.out.o8
        obtain ⟨q0, q1, q2, q3, q4⟩ := cell_row5 hR.out.o9
        obtain ⟨_, _, _, _, z4⟩ := cell_row5 hR.out.o4
        injection he8 with e1 _ e3
        subst e1; subst e3
        have HRD := Lib.hid hrd
        have HLT := Lib.hid hlt8
        clear hrd hlt8
        go_wp2_with fail
        refine bodyPost_ret (v := cellV ka va (.slice A5 done.length c5)) (results_cell_row rfl _ _ g8 26 _ (0, 0) _ rfl (set5 hR.out.o8) Try.underlying26 rfl (by kernel_rfl)) rfl ?_
        rw [← hfin.out]
        refine ⟨A5, c5, rfl, ?_, (((((hR.out.bel.setCell HG.out.m8 _).setCell HG.out.m8 _).setCell HG.out.m8 _).setCell HG.out.m8 _).setCell HG.out.m8 _)⟩
        have hA : ∀ a, A5 = some a → a.block ≠ g8 := fun a ha => by
          have := HLT.out a.block (by rw [ha]; rfl)
          have := HG.out.l8
          omega
        exact rdg_set (rdg_set (rdg_set (rdg_set (rdg_set HRD.out _ hA 0 _) _ hA 1 _) _ hA 2 _) _ hA 3 _) _ hA 4 _
      | false =>
        obtain ⟨D1, hD1⟩ : ∃ D1, Hid (D1 = done ++ [part0 v d]) := ⟨_, rfl⟩
        have hdl1 : D1.length ≤ k + 2 := by rw [hD1.out]; simp; omega
        have hfin : Hid (D1 = F) := by
          show _ = _
          have h2 := hP.out.last
          rw [hflt.out] at h2
          rw [hD1.out, h2, HF.out]
        clear hP hflt
        obtain ⟨_, _, _, _, p4⟩ := cell_row5 hR.out.o9
        obtain ⟨_, _, _, _, z4⟩ := cell_row5 hR.out.o4
        obtain ⟨y0, y1, y2⟩ := val_row hR.out.o5
        obtain ⟨d0, d1⟩ := dot_row hR.out.o6
        go_wp2_with (at_builtin; refine wpList_pushP (W0 := wr) rfl (.tmp 65) (.tmp 69) rfl w1.heap.size _ _ done (part0 v d) wr.heap.size rfl rfl rfl hR.out.own (by first | omega | (simp; omega)) (Below.refl _ _) hR.out.siz ?_; intro v3 w5 hown5 hb5 hs5; obtain ⟨A6, c6, rfl, _⟩ := RdG.own_ (l := done ++ [(part0 v d)]) p11len (by omega) hown5; have k9' := (hb5.block g9 HG.out.l9).trans hR.out.o9; obtain ⟨_, _, _, _, p4'⟩ := cell_row5 k9'; have f4 := frozen_row k9' 4; have HP5 := Lib.hid (hR.out.put HG.out hb5 hs5 hown5); clear k9' hown5 hb5 hs5; have HP7 : Hid (OutW ka va (.slice A n c) v d w.heap.size g5 g6 g8 g9 w1.heap.size w A6 c6 D1 (w5.setCell ⟨g9, 4, none⟩ (.slice A6 (done.length + 1) c6))) := (by show OutW _ _ _ _ _ _ _ _ _ _ _ _ _ _ _ _; rw [hD1.out]; exact HP5.out); clear HP5; obtain ⟨r0, r1, r2, r3, r4⟩ := cell_row5 HP7.out.o8; have f0 := frozen_row HP7.out.o8; obtain ⟨q0, q1, q2, q3, q4⟩ := cell_row5 HP7.out.o9)
        generalize w5.setCell ⟨g9, 4, none⟩ (.slice A6 (done.length + 1) c6) = W6 at HP7 ⊢
        obtain ⟨A8, c8, he8, hrd⟩ := RdG.own_ (l := D1) p11len (by omega) HP7.out.own
        have HLT := Lib.hid HP7.out.own.lt
        injection he8 with e1 _ e3
        subst e1; subst e3
        have HRD := Lib.hid hrd
        clear hrd
        refine bodyPost_ret (v := cellV ka va (.slice A6 D1.length c6)) (results_cell_row rfl _ _ g8 26 _ (0, 0) _ rfl (set5 HP7.out.o8) Try.underlying26 rfl (by kernel_rfl)) rfl ?_
        rw [← hfin.out]
        refine ⟨A6, c6, rfl, ?_, (((((HP7.out.bel.setCell HG.out.m8 _).setCell HG.out.m8 _).setCell HG.out.m8 _).setCell HG.out.m8 _).setCell HG.out.m8 _)⟩
        have hA : ∀ a, A6 = some a → a.block ≠ g8 := fun a ha => by
          have := HLT.out a.block (by rw [ha]; rfl)
          have := HG.out.l8
          omega
        exact rdg_set (rdg_set (rdg_set (rdg_set (rdg_set HRD.out _ hA 0 _) _ hA 1 _) _ hA 2 _) _ hA 3 _) _ hA 4 _

end Go.Proofs.Ytieaobeidlhefaa

