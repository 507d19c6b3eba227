/- Several texts laid together: Mem, Law. -/
import Derived.WalkKit
import Derived.OwnWalk
import Derived.Below
import Derived.Deep.Draws
import Derived.Laws.OwnMore
import Derived.Deep.AppendLies
import Derived.Maps.AppendAt
import Derived.Lib.Hide
import Derived.Lib.AppendStr
import Derived.Laws.BytesString
import Derived.Test.YtfljhnalmiibeaaGreatRows
import Derived.ProofKit
import Derived.OpenShut
import Derived.JoinedCond
import Derived.SizedLaws
namespace Go.Proofs.YtfljhnalmiibeaaGreat
open Go.RowKit
/-- the slice at address A, of n elements and capacity c, reads as vs: one cell an element -/
def Rd (w : World) (A : Option Addr) (n c : Nat) (vs : List Value) : Prop :=
  vs.length = n ∧ n ≤ c ∧ c ≤ maxLen ∧
    (0 < n → ∃ b o, A = some ⟨b, o, none⟩ ∧ b < w.heap.size ∧ ∀ j (h : j < vs.length), w.cell? ⟨b, o + j, none⟩ = some vs[j])
section
variable {w w' w1 : World} {A : Option Addr} {n c : Nat} {vs : List Value}
theorem Rd.len (h : Rd w A n c vs) : vs.length = n := h.1
theorem Rd.cap (h : Rd w A n c vs) : n ≤ c := h.2.1
theorem Rd.le (h : Rd w A n c vs) : n ≤ 9223372036854775807 := by
  have h1 := h.2.1; have h2 := h.2.2.1; simp only [maxLen] at h2; omega
theorem Rd.at_ (h : Rd w A n c vs) {k : Nat} (hk : k < n) : ∃ b o v, A = some ⟨b, o, none⟩ ∧ b < w.heap.size ∧ vs[k]? = some v ∧ w.cell? ⟨b, o + k, none⟩ = some v := by
  obtain ⟨hl, _, _, hx⟩ := h
  obtain ⟨b, o, rfl, hb, hc⟩ := hx (by omega)
  exact ⟨b, o, vs[k]'(by omega), rfl, hb, List.getElem?_eq_getElem (by omega), hc k (by omega)⟩
theorem Rd.keep (h : Rd w A n c vs) (hs : w.heap.size ≤ w'.heap.size) (hk : ∀ p : Addr, p.block < w.heap.size → w'.cell? p = w.cell? p) : Rd w' A n c vs := by
  obtain ⟨hl, h1, h2, hx⟩ := h
  refine ⟨hl, h1, h2, fun h0 => ?_⟩
  obtain ⟨b, o, rfl, hb, hc⟩ := hx h0
  exact ⟨b, o, rfl, by omega, fun j hj => (hk ⟨b, o + j, none⟩ hb).trans (hc j hj)⟩
theorem Rd.below (h : Rd w A n c vs) (hb : Below w.heap.size w w') : Rd w' A n c vs := h.keep hb.size fun _ hp => hb.cell hp
theorem Rd.drewN (h : Rd w A n c vs) (k : Nat) : Rd (w.drewN k) A n c vs := h
theorem Rd.drew (h : Rd w A n c vs) : Rd w.drew A n c vs := h
theorem Rd.alloc (h : Rd w A n c vs) (o : Obj) : Rd (w.alloc o) A n c vs := h.keep (by simp) fun p hp => World.cell?_alloc_lt w o p hp
theorem Rd.nil_ (w : World) : Rd w none 0 0 [] := ⟨rfl, Nat.le_refl _, by simp [maxLen], fun h => absurd h (by omega)⟩
theorem Rd.empty_ (w : World) (A : Option Addr) {c : Nat} (hc : c ≤ maxLen) : Rd w A 0 c [] := ⟨rfl, Nat.zero_le _, hc, fun h => absurd h (by omega)⟩
theorem Rd.eq_nil (h : Rd w A 0 c vs) : vs = [] := List.eq_nil_of_length_eq_zero h.1
/-- what the call owns reads so -/
theorem Rd.of_own {base : Nat} {e : TypeId} {v : Value} (h : w.ownsRow base e 1 v n vs) : ∃ A c, v = .slice A n c ∧ Rd w A n c vs := by
  have hl := h.1
  rcases h.2 with ⟨rfl, rfl⟩ | ⟨g, cap, cur, rfl, _, hg, hnc, hcm, _, _⟩
  · exact ⟨none, 0, rfl, by simpa using hl, Nat.le_refl _, by simp [maxLen], fun h => absurd h (by omega)⟩
  · refine ⟨_, _, rfl, by simpa using hl, hnc, hcm, fun _ => ⟨g, 0, rfl, (Array.getElem?_eq_some_iff.1 hg).1, fun j hj => ?_⟩⟩
    have := h.cellAt j (by omega)
    rw [Nat.zero_add, this, List.getElem?_eq_getElem hj]
theorem Rd.own_ {base : Nat} {e : TypeId} (h : w.ownsRow base e 1 (.slice A n c) n vs) : Rd w A n c vs := by
  obtain ⟨A', c', h1, h2⟩ := Rd.of_own h
  injection h1 with e1 e2 e3
  subst e1 e3
  exact h2
/-- a cut at the front -/
theorem Rd.cut (h : Rd w A n c vs) {k : Nat} (hk : k ≤ n) : Rd w (if c = k then A else A.map (·.add k)) (n - k) (c - k) (vs.drop k) := by
  obtain ⟨hl, h1, h2, hx⟩ := h
  refine ⟨by rw [List.length_drop, hl], by omega, by simp only [maxLen] at *; omega, fun h0 => ?_⟩
  obtain ⟨b, o, rfl, hb, hc⟩ := hx (by omega)
  rw [if_neg (by omega)]
  refine ⟨b, o + k, ?_, hb, fun j hj => ?_⟩
  · unfold Addr.add; by_cases h0 : k = 0 <;> simp [h0]
  · rw [List.length_drop] at hj
    have := hc (k + j) (by omega)
    rw [Nat.add_assoc, this, List.getElem_drop]
/-- a cut at the end -/
theorem Rd.upto (h : Rd w A n c vs) {k m : Nat} (hk : k ≤ n) (hm : k ≤ m) (hmc : m ≤ c) : Rd w A k m (vs.take k) := by
  obtain ⟨hl, h1, h2, hx⟩ := h
  refine ⟨by rw [List.length_take]; omega, hm, by simp only [maxLen] at *; omega, fun h0 => ?_⟩
  obtain ⟨b, o, rfl, hb, hc⟩ := hx (by omega)
  refine ⟨b, o, rfl, hb, fun j hj => ?_⟩
  rw [List.length_take] at hj
  rw [hc j (by omega), List.getElem_take]
theorem Rd.hsize (h : Rd w A n c vs) (h0 : 0 < n) : ∃ b o, A = some ⟨b, o, none⟩ ∧ b < w.heap.size := by
  obtain ⟨b, o, rfl, hb, _⟩ := h.2.2.2 h0; exact ⟨b, o, rfl, hb⟩
end
/-- the draws alone -/
def Quiet (w w' : World) : Prop := ∃ k, w' = w.drewN k
theorem Quiet.refl (w : World) : Quiet w w := ⟨0, rfl⟩
theorem Quiet.add (w : World) (k : Nat) : Quiet w (w.drewN k) := ⟨k, rfl⟩
theorem Quiet.add2 (w : World) (k m : Nat) : Quiet w ((w.drewN k).drewN m) := ⟨k + m, by simp⟩
theorem Quiet.trans {a b c : World} (h : Quiet a b) (h' : Quiet b c) : Quiet a c := by
  obtain ⟨k, rfl⟩ := h; obtain ⟨m, rfl⟩ := h'; exact ⟨k + m, by simp⟩
theorem Quiet.below {w w' : World} (B : Nat) (h : Quiet w w') : Below B w w' := by
  obtain ⟨k, rfl⟩ := h; exact ⟨rfl, rfl, rfl, Nat.le_refl _, fun _ _ => rfl⟩
theorem below_new {w a : World} (h : Below w.heap.size w a) (o : Obj) : Below w.heap.size w (a.alloc o) := h.alloc h.size o
theorem below_then {w a b : World} (h : Below w.heap.size w a) (k : Below a.heap.size a b) : Below w.heap.size w b := h.trans (k.mono h.size)
theorem below_quiet {w a b : World} (h : Below w.heap.size w a) (k : Quiet a b) : Below w.heap.size w b := h.trans (k.below _)
theorem below_drewN {B : Nat} {a w : World} (h : Below B a w) (n : Nat) : Below B a (w.drewN n) := h.trans (Quiet.below B ⟨n, rfl⟩)
/-- bytes, and other numbers, as cells -/
abbrev vals (k : IntKind) (l : List Int) : List Value := l.map (Value.int k)
theorem vals_at {k : IntKind} {l : List Int} {j : Nat} {v : Value} (h : (vals k l)[j]? = some v) : ∃ z, l[j]? = some z ∧ v = .int k z := by
  simp only [vals, List.getElem?_map, Option.map_eq_some_iff] at h
  obtain ⟨z, hz, rfl⟩ := h
  exact ⟨z, hz, rfl⟩
theorem vals_one (k : IntKind) (l : List Int) : ∀ u ∈ vals k l, u.oneCell' = true := ints_oneCell k l
/-- one element more, behind a row of the call's own: the element lies in a block of its own first -/
theorem wpList_push {P : Program} {w W0 : World} {ops : Array Oper} {rest : List Oper} {o : Oper} {a : Act} {Q : Exit → Act → World → Prop} (hgd : o.guard = none) (s x : Operand) (t : TypeId)
    (ho : o.op = .call { callee := .builtin .append, args := #[s, x], argTypes := #[t, t] }) (e : TypeId) (ht : P.underlying t = some (.slice e))
    (z : Value) (bytes : Nat) (hinfo : (P.info? e).map (fun i => (i.zero, i.size, i.bytes)) = some (some z, 1, bytes)) (hzs : z.cells.size = 1) (hb64 : bytes ≤ 4096)
    (base : Nat) (v : Value) (n : Nat) (xs : List Value) (u : Value) (hx : a.eval x = .slice (some ⟨w.heap.size, 0, none⟩) 1 1)
    (hs : a.eval s = v) (hown : w.ownsRow base e 1 v n xs) (hu : u.oneCell' = true) (hn : n < 17179869184)
    (hbel : Below base W0 w) (hbase : base ≤ w.heap.size)
    (h : ∀ v' w', w'.ownsRow base e 1 v' (n + 1) (xs ++ [u]) → Below base W0 w' → base ≤ w'.heap.size → wpList P ops Q rest (a.put o.dst v') w') :
    wpList P ops Q (o :: rest) a (w.alloc (.cells #[u] e)) := by
  obtain ⟨i0, hi0, hz0, hz1, hz2⟩ := info_parts hinfo
  have hby : (n + 1) * bytes ≤ 140737488355328 := Nat.le_trans (Nat.mul_le_mul (show n + 1 ≤ 17179869184 by omega) hb64) (by omega)
  refine wpList_append_own _ hgd s x t ho base e i0 z 1 bytes ht hi0 hz0 hz1 hz2 hzs (by omega) v n xs hs (hown.alloc _) ⟨w.heap.size, 0, none⟩ 1 1 [u] hx rfl (cell_one_new _ _ _)
    (by simpa using hu) (by simp only [maxLen]; omega) hby (by simp; omega) ?_
  intro v' w' hown' hgrow _
  refine h v' w' hown' ?_ (by have := hgrow.size; simp at this; omega)
  exact (hbel.alloc hbase _).grown hgrow (by simp; omega) (fun k hk => (hown.lt k hk).1)
theorem own_mono {w : World} {base base' : Nat} {e : TypeId} {size : Nat} {v : Value} {n : Nat} {xs : List Value} (h : w.ownsRow base' e size v n xs) (hb : base ≤ base') : w.ownsRow base e size v n xs := by
  refine ⟨h.1, ?_⟩
  rcases h.2 with hn | ⟨g, cap, cur, hv, hg, rest⟩
  · exact .inl hn
  · exact .inr ⟨g, cap, cur, hv, by omega, rest⟩
/-- a row of the call's own stays so while only what is older than it, or new, is touched -/
theorem own_below {w w' : World} {base : Nat} {e : TypeId} {size : Nat} {v : Value} {n : Nat} {xs : List Value} (h : w.ownsRow base e size v n xs) (hb : Below w.heap.size w w') : w'.ownsRow base e size v n xs := by
  refine ⟨h.1, ?_⟩
  rcases h.2 with hn | ⟨g, cap, cur, hv, hg, hh, rest⟩
  · exact .inl hn
  · exact .inr ⟨g, cap, cur, hv, hg, by rw [hb.block g (Array.getElem?_eq_some_iff.1 hh).1]; exact hh, rest⟩
theorem run_append_zero {P : Program} (w : World) (t ty e : TypeId) (i : TypeInfo) (ht : P.underlying t = some (.slice e)) (hi : P.info? e = some i) (A B : Option Addr) (n c d : Nat) (hn : n ≤ c) :
    (Builtin.append_ #[t, t] ty #[.slice A n c, .slice B 0 d]).run P w = .ok (.slice A n c) w := by
  cases A <;> cases B <;> simp [Builtin.append_, run_underlying ht, sizeOf, typeInfo, hi, Builtin.lenOf, Builtin.firstCells, hn, storeCells, loadCells, loadCellsFrom]
theorem rd_cells {w : World} {b o n c : Nat} {vs : List Value} (h : Rd w (some ⟨b, o, none⟩) n c vs) : ∀ j u, vs[j]? = some u → w.cell? ((⟨b, o, none⟩ : Addr).add j) = some u := by
  intro j u hj
  obtain ⟨hl, _, _, hx⟩ := h
  have hj' : j < vs.length := (List.getElem?_eq_some_iff.1 hj).1
  obtain ⟨b', o', e, _, hc⟩ := hx (by omega)
  injection e with e
  injection e with e1 e2
  subst e1 e2
  have := hc j hj'
  rw [List.getElem?_eq_getElem hj'] at hj
  injection hj with hj
  subst hj
  rw [← this]
  unfold Addr.add
  by_cases h0 : j = 0 <;> simp [h0]
/-- what reads as a list, put behind a row of the call's own -/
theorem run_app {P : Program} {w W0 : World} (t ty e : TypeId) (ht : P.underlying t = some (.slice e))
    (z : Value) (bytes : Nat) (hinfo : (P.info? e).map (fun i => (i.zero, i.size, i.bytes)) = some (some z, 1, bytes)) (hzs : z.cells.size = 1) (hb64 : bytes ≤ 4096)
    (base : Nat) (v : Value) (n : Nat) (xs : List Value) (A : Option Addr) (m c : Nat) (news : List Value)
    (hown : w.ownsRow base e 1 v n xs) (hrd : Rd w A m c news) (h1 : ∀ u ∈ news, u.oneCell' = true) (hn : n + m ≤ 17179869184)
    (hbel : Below base W0 w) (hbase : base ≤ w.heap.size) :
    ∃ v' w', (Builtin.append_ #[t, t] ty #[v, .slice A m c]).run P w = .ok v' w' ∧ w'.ownsRow base e 1 v' (n + m) (xs ++ news) ∧ Below base W0 w' ∧ base ≤ w'.heap.size := by
  obtain ⟨i0, hi0, hz0, hz1, hz2⟩ := info_parts hinfo
  have hby : (n + m) * bytes ≤ 140737488355328 := Nat.le_trans (Nat.mul_le_mul hn hb64) (by omega)
  by_cases hm : m = 0
  · subst hm
    have he : news = [] := hrd.eq_nil
    subst he
    refine ⟨v, w, ?_, by simpa using hown, hbel, hbase⟩
    rcases hown.2 with ⟨rfl, rfl⟩ | ⟨g, cap, cur, rfl, _, _, hnc, _⟩
    · exact run_append_zero w t ty e i0 ht hi0 _ _ _ _ _ (Nat.le_refl _)
    · exact run_append_zero w t ty e i0 ht hi0 _ _ _ _ _ hnc
  · obtain ⟨b, o, rfl, hb⟩ := hrd.hsize (by omega)
    have hl : news.length = m * 1 := by rw [hrd.len]; omega
    obtain ⟨v', w', hr, hown', hgrow, _⟩ := run_append_own (P := P) w base t ty e i0 z 1 bytes ht hi0 hz0 hz1 hz2 hzs (by omega) v n xs hown ⟨b, o, none⟩ m c news hl (rd_cells hrd) h1 (by simp only [maxLen]; omega) hby hbase
    exact ⟨v', w', hr, hown', hbel.grown hgrow hbase (fun k hk => (hown.lt k hk).1), by have := hgrow.size; omega⟩
theorem wpList_app {P : Program} {w W0 : World} {ops : Array Oper} {rest : List Oper} {o : Oper} {a : Act} {Q : Exit → Act → World → Prop} (hgd : o.guard = none) (s x : Operand) (t : TypeId)
    (ho : o.op = .call { callee := .builtin .append, args := #[s, x], argTypes := #[t, t] }) (e : TypeId) (ht : P.underlying t = some (.slice e))
    (z : Value) (bytes : Nat) (hinfo : (P.info? e).map (fun i => (i.zero, i.size, i.bytes)) = some (some z, 1, bytes)) (hzs : z.cells.size = 1) (hb64 : bytes ≤ 4096)
    (base : Nat) (v : Value) (n : Nat) (xs : List Value) (A : Option Addr) (m c : Nat) (news : List Value) (hx : a.eval x = .slice A m c)
    (hs : a.eval s = v) (hown : w.ownsRow base e 1 v n xs) (hrd : Rd w A m c news) (h1 : ∀ u ∈ news, u.oneCell' = true) (hn : n + m ≤ 17179869184)
    (hbel : Below base W0 w) (hbase : base ≤ w.heap.size)
    (h : ∀ v' w', w'.ownsRow base e 1 v' (n + m) (xs ++ news) → Below base W0 w' → base ≤ w'.heap.size → wpList P ops Q rest (a.put o.dst v') w') :
    wpList P ops Q (o :: rest) a w := by
  refine wpList_plain hgd fun K hK => ?_
  obtain ⟨v', w', hr, h2, h3, h4⟩ := run_app (P := P) t o.type e ht z bytes hinfo hzs hb64 base v n xs A m c news hown hrd h1 hn hbel hbase
  unfold Oper.wp execOp
  simp only [ho, resolve, invoke, builtin, Sem.run_bind, Sem.run_pure, Result.andThen_ok, List.map_toArray, List.map_cons, List.map_nil, hs, hx, hr]
  exact hK _ _ (h v' w' h2 h3 h4)
/-- what reads as a list, put behind a full slice: new memory, or nothing is put -/
theorem run_full {P : Program} {w : World} (t ty e : TypeId) (ht : P.underlying t = some (.slice e))
    (z : Value) (bytes : Nat) (hinfo : (P.info? e).map (fun i => (i.zero, i.size, i.bytes)) = some (some z, 1, bytes)) (_hzs : z.cells.size = 1) (hb64 : bytes ≤ 4096)
    (A : Option Addr) (n : Nat) (xs : List Value) (B : Option Addr) (m c : Nat) (news : List Value)
    (ha : Rd w A n n xs) (hrd : Rd w B m c news) (hn : n + m ≤ 17179869184) :
    ∃ A' c' w', (Builtin.append_ #[t, t] ty #[.slice A n n, .slice B m c]).run P w = .ok (.slice A' (n + m) c') w' ∧ Rd w' A' (n + m) c' (xs ++ news) ∧ Below w.heap.size w w' := by
  obtain ⟨i0, hi0, hz0, hz1, hz2⟩ := info_parts hinfo
  have hby : (n + m) * bytes ≤ 140737488355328 := Nat.le_trans (Nat.mul_le_mul hn hb64) (by omega)
  by_cases hm : m = 0
  · subst hm
    have he : news = [] := hrd.eq_nil
    subst he
    exact ⟨A, n, w, run_append_zero w t ty e i0 ht hi0 _ _ _ _ _ (Nat.le_refl _), by simpa using ha, Below.refl _ _⟩
  · obtain ⟨b, o, rfl, hb⟩ := hrd.hsize (by omega)
    have hl : news.length = m * i0.size := by rw [hrd.len, hz1]; omega
    have hge := grownCap_ge w (n + m) n e
    have hcm : grownCap w (n + m) n e ≤ maxLen := grownCap_le_maxLen w (n + m) n e (by simp only [maxLen]; omega)
    have hlen : (xs ++ news).length = n + m := by rw [List.length_append, ha.len, hrd.len]
    have rd : ∀ (cap : Nat) (zs : Array Value), n + m ≤ cap → cap ≤ maxLen → Rd (w.drew.alloc (.cells (xs.toArray ++ news.toArray ++ zs) e)) (some ⟨w.heap.size, 0, none⟩) (n + m) cap (xs ++ news) := by
      intro cap zs h1 h2
      refine ⟨hlen, h1, h2, fun _ => ⟨w.heap.size, 0, rfl, by simp, fun j hj => ?_⟩⟩
      have : ((xs.toArray ++ news.toArray ++ zs)[0 + j]? : Option Value) = some (xs ++ news)[j] := by
        rw [Nat.zero_add, Array.getElem?_append_left (by simpa using hj)]
        rw [List.append_toArray, List.getElem?_toArray, List.getElem?_eq_getElem hj]
      exact (cell_of_row _ w.heap.size (0 + j) _ e (0, 0) (heap_alloc_new w.drew _)).trans this
    have bel : ∀ (o : Obj), Below w.heap.size w (w.drew.alloc o) := fun o => ((Below.refl _ _).drew).alloc (Nat.le_refl _) o
    by_cases h0 : n = 0
    · subst h0
      have he : xs = [] := ha.eq_nil
      subst he
      cases A with
      | none =>
        have hr := run_append_nil (P := P) w t ty e i0 z ht hi0 hz0 ⟨b, o, none⟩ m c news hl (rd_cells hrd) (by omega) (by omega) (by rw [hz2]; simp at hby; omega)
        refine ⟨_, _, _, by simpa using hr, ?_, bel _⟩
        have := rd (grownCap w m 0 e) (Builtin.zeroCells z.cells (grownCap w m 0 e - m)) (by simpa using hge) (by simpa using hcm)
        simpa using this
      | some ad =>
        have hr := run_append_grow (P := P) w t ty e i0 z ht hi0 hz0 ad 0 0 [] (by simp) (by simp) ⟨b, o, none⟩ m c news hl (rd_cells hrd) (by omega) (by omega) (growslice_fits (by omega) (by rw [hz2]; exact hby))
        refine ⟨_, _, _, hr, ?_, bel _⟩
        exact rd _ _ hge hcm
    · obtain ⟨b', o', rfl, hb'⟩ := ha.hsize (by omega)
      have hr := run_append_grow (P := P) w t ty e i0 z ht hi0 hz0 ⟨b', o', none⟩ n n xs (by rw [ha.len, hz1]; omega) (rd_cells ha) ⟨b, o, none⟩ m c news hl (rd_cells hrd) (by omega) (by omega) (growslice_fits (by omega) (by rw [hz2]; exact hby))
      exact ⟨_, _, _, hr, rd _ _ hge hcm, bel _⟩
theorem wpList_full {P : Program} {w : World} {ops : Array Oper} {rest : List Oper} {o : Oper} {a : Act} {Q : Exit → Act → World → Prop} (hgd : o.guard = none) (s x : Operand) (t : TypeId)
    (ho : o.op = .call { callee := .builtin .append, args := #[s, x], argTypes := #[t, t] }) (e : TypeId) (ht : P.underlying t = some (.slice e))
    (z : Value) (bytes : Nat) (hinfo : (P.info? e).map (fun i => (i.zero, i.size, i.bytes)) = some (some z, 1, bytes)) (hzs : z.cells.size = 1) (hb64 : bytes ≤ 4096)
    (A : Option Addr) (n : Nat) (xs : List Value) (B : Option Addr) (m c : Nat) (news : List Value) (hx : a.eval x = .slice B m c)
    (hs : a.eval s = .slice A n n) (ha : Rd w A n n xs) (hrd : Rd w B m c news) (hn : n + m ≤ 17179869184)
    (h : ∀ A' c' w', Rd w' A' (n + m) c' (xs ++ news) → Below w.heap.size w w' → wpList P ops Q rest (a.put o.dst (.slice A' (n + m) c')) w') :
    wpList P ops Q (o :: rest) a w := by
  refine wpList_plain hgd fun K hK => ?_
  obtain ⟨A', c', w', hr, h2, h3⟩ := run_full (P := P) t o.type e ht z bytes hinfo hzs hb64 A n xs B m c news ha hrd hn
  unfold Oper.wp execOp
  simp only [ho, resolve, invoke, builtin, Sem.run_bind, Sem.run_pure, Result.andThen_ok, List.map_toArray, List.map_cons, List.map_nil, hs, hx, hr]
  exact hK _ _ (h A' c' w' h2 h3)
/-- a text's bytes -/
def sbytes (s : ByteArray) : List Int := s.data.toList.map fun b => (b.toNat : Int)
theorem sbytes_len (s : ByteArray) : (sbytes s).length = s.size := by
  rw [sbytes, List.length_map, Array.length_toList]; rfl
theorem strCells_eq (s : ByteArray) : Lib.strCells s = vals .u8 (sbytes s) := by simp [Lib.strCells, vals, sbytes]
theorem sbytes_rng (s : ByteArray) : ∀ x ∈ sbytes s, 0 ≤ x ∧ x ≤ 255 := by
  intro x hx
  simp only [sbytes, List.mem_map] at hx
  obtain ⟨b, _, rfl⟩ := hx
  have := b.toNat_lt
  omega
theorem sbytes_inj {s t : ByteArray} (h : sbytes s = sbytes t) : s = t := by
  have h2 : s.data.toList = t.data.toList := by
    refine List.map_inj_right (f := fun b : UInt8 => (b.toNat : Int)) ?_ |>.1 h
    intro a b hab
    exact UInt8.toNat_inj.1 (by omega)
  have h3 : s.data = t.data := Array.toList_inj.1 h2
  cases s; cases t; simp at h3; rw [h3]
/-- a text, put behind a row of the call's own -/
theorem wpList_appStr {P : Program} {w W0 : World} {ops : Array Oper} {rest : List Oper} {o : Oper} {a : Act} {Q : Exit → Act → World → Prop} (hgd : o.guard = none) (sl x : Operand) (t u : TypeId)
    (ho : o.op = .call { callee := .builtin .append, args := #[sl, x], argTypes := #[t, u] }) (e : TypeId) (ht : P.underlying t = some (.slice e)) (hu : P.underlying u = some .string)
    (hinfo : (P.info? e).map (fun i => (i.zero, i.size, i.bytes)) = some (some (.int .u8 0), 1, 1))
    (base : Nat) (v : Value) (n : Nat) (xs : List Value) (s : ByteArray) (hx : a.eval x = .string s)
    (hs : a.eval sl = v) (hown : w.ownsRow base e 1 v n xs) (hn : n + s.size ≤ 140737488355328)
    (hbel : Below base W0 w) (hbase : base ≤ w.heap.size)
    (h : ∀ v' w', w'.ownsRow base e 1 v' (n + s.size) (xs ++ vals .u8 (sbytes s)) → Below base W0 w' → base ≤ w'.heap.size → wpList P ops Q rest (a.put o.dst v') w') :
    wpList P ops Q (o :: rest) a w := by
  obtain ⟨i0, hi0, hz0, hz1, hz2⟩ := info_parts hinfo
  refine Lib.wpList_append_own_string _ hgd sl x t u ho base e i0 ht hu hi0 hz0 hz1 hz2 v n xs hs hown s hx (by simp only [maxLen]; omega) hn hbase ?_
  intro v' w' hown' hgrow _
  rw [strCells_eq] at hown'
  exact h v' w' hown' (hbel.grown hgrow hbase (fun k hk => (hown.lt k hk).1)) (by have := hgrow.size; omega)
/-- an operation of which it is known how it runs -/
theorem wpList_exec {P : Program} {w w' : World} {ops : Array Oper} {rest : List Oper} {o : Oper} {a : Act} {Q : Exit → Act → World → Prop} (hgd : o.guard = none) (v : Value)
    (hr : (execOp a.eval o).run P w = .ok (.value v) w') (h : wpList P ops Q rest (a.put o.dst v) w') : wpList P ops Q (o :: rest) a w := by
  refine wpList_plain hgd fun K hK => ?_
  unfold Oper.wp
  rw [hr]
  exact hK _ _ h
/-- the text of bytes -/
def textOf (l : List Int) : ByteArray := ⟨(l.map fun z => UInt8.ofNat z.toNat).toArray⟩
theorem sbytes_textOf {l : List Int} (h : ∀ x ∈ l, 0 ≤ x ∧ x ≤ 255) : sbytes (textOf l) = l := by
  simp only [sbytes, textOf, List.map_map]
  conv => rhs; rw [← List.map_id l]
  refine List.map_congr_left fun x hx => ?_
  have := h x hx
  simp [Nat.mod_eq_of_lt (show x.toNat < 256 by omega)]
  omega
theorem foldl_push (ns : List Int) : ∀ s : ByteArray, ns.foldl (fun r n => r.push (UInt8.ofNat n.toNat)) s = ⟨s.data ++ (ns.map fun z => UInt8.ofNat z.toNat).toArray⟩ := by
  induction ns with
  | nil => intro s; simp
  | cons n ns ih =>
    intro s
    rw [List.foldl_cons, ih]
    simp [ByteArray.push]
theorem run_toText {P : Program} {w : World} (src dst e : TypeId) (hs : P.underlying src = some (.slice e)) (he : P.underlying e = some (.int .u8)) (hd : P.underlying dst = some .string)
    {A : Option Addr} {n c : Nat} {l : List Int} (h : Rd w A n c (vals .u8 l)) : (convert src dst (.slice A n c)).run P w = .ok (.string (textOf l)) w := by
  rw [run_convert_bytes_string w src dst e A n c hs he hd]
  by_cases h0 : n = 0
  · subst h0
    have : vals .u8 l = [] := h.eq_nil
    have hl : l = [] := by simpa [vals] using this
    subst hl
    cases A with
    | none => rfl
    | some ad => exact run_bytesToString w ad 0 c [] (by simp [loadCells, loadCellsFrom])
  · obtain ⟨b, o, rfl, hb⟩ := h.hsize (by omega)
    have hr := run_firstCells_some (P := P) w 1 n ⟨b, o, none⟩ n c (vals .u8 l) (by rw [h.len]; omega) (rd_cells h)
    have hr2 : (loadCells ⟨b, o, none⟩ n).run P w = .ok (vals .u8 l).toArray w := by
      simpa [Builtin.firstCells, h0] using hr
    rw [run_bytesToString w ⟨b, o, none⟩ n c l hr2, foldl_push]
    simp [textOf]
theorem wpList_toText {P : Program} {w : World} {ops : Array Oper} {rest : List Oper} {o : Oper} {a : Act} {Q : Exit → Act → World → Prop} (hgd : o.guard = none) (src dst : TypeId) (x : Operand)
    (ho : o.op = .convert src dst x) (e : TypeId) (hs : P.underlying src = some (.slice e)) (he : P.underlying e = some (.int .u8)) (hd : P.underlying dst = some .string)
    (A : Option Addr) (n c : Nat) (l : List Int) (hx : a.eval x = .slice A n c) (hrd : Rd w A n c (vals .u8 l))
    (h : wpList P ops Q rest (a.put o.dst (.string (textOf l))) w) : wpList P ops Q (o :: rest) a w := by
  refine wpList_exec hgd _ ?_ h
  have := run_toText (P := P) src dst e hs he hd hrd
  simp [execOp, ho, hx, this]
/-- a literal row in a new block -/
theorem rd_new (w : World) (vs : List Value) (e : TypeId) {n : Nat} (h : vs.length = n) (hn : n ≤ 4294967296) : Rd (w.alloc (.cells vs.toArray e)) (some ⟨w.heap.size, 0, none⟩) n n vs := by
  refine ⟨h, Nat.le_refl _, by simp only [maxLen]; omega, fun _ => ⟨w.heap.size, 0, rfl, by simp, fun j hj => ?_⟩⟩
  have := cell_of_row _ w.heap.size (0 + j) _ e (0, 0) (heap_alloc_new w (.cells vs.toArray e))
  rw [this, Nat.zero_add, List.getElem?_toArray, List.getElem?_eq_getElem hj]
theorem rd_at (w : World) (vs : List Value) (e : TypeId) {n g : Nat} (h : vs.length = n) (hn : n ≤ 4294967296) (hg : w.heap.size = g) : Rd (w.alloc (.cells vs.toArray e)) (some ⟨g, 0, none⟩) n n vs := by
  subst hg; exact rd_new w vs e h hn
/-- a new slice of the call's own is handed back, that reads as l -/
def Fresh (E : TypeId) (k : IntKind) (l : List Int) (w : World) (e : Ending) (w' : World) : Prop :=
  ∃ A c, e = .returned (.slice A l.length c) ∧ w'.ownsRow w.heap.size E 1 (.slice A l.length c) l.length (vals k l) ∧ Rd w' A l.length c (vals k l) ∧ Below w.heap.size w w'
theorem fresh {P : Program} {f : FuncId} {args : Array Value} {E : TypeId} {k : IntKind} {l : List Int} {w : World}
    (h : Calls P f args w fun e w' => ∃ v, e = .returned v ∧ w'.ownsRow w.heap.size E 1 v l.length (vals k l) ∧ Below w.heap.size w w') :
    Calls P f args w (Fresh E k l w) := by
  refine h.mono fun e w' ⟨v, he, hown, hb⟩ => ?_
  obtain ⟨A, c, rfl, hrd⟩ := Rd.of_own hown
  exact ⟨A, c, he, hown, hrd, hb⟩
theorem fresh_len {P : Program} {f : FuncId} {args : Array Value} {E : TypeId} {k : IntKind} {l : List Int} {w : World} (h : Calls P f args w (Fresh E k l w)) {m : Nat} (hm : l.length = m) :
    Calls P f args w fun e w' => ∃ A c, e = .returned (.slice A m c) ∧ Rd w' A m c (vals k l) ∧ Below w.heap.size w w' := by
  subst hm
  exact h.mono fun e w' ⟨A, c, h1, _, h3, h4⟩ => ⟨A, c, h1, h3, h4⟩
/-- a sum or a difference that goes by the walk -/
theorem wrap_is {z : Int} (h : -9223372036854775808 ≤ z ∧ z ≤ 9223372036854775807) : IntKind.i64.wrap z = z := by
  simp [IntKind.wrap, IntKind.bits, IntKind.signed]; omega
theorem ret_bool {a b : Bool} (h : a = b) : Ending.returned (.bool a) = .returned (.bool b) := by rw [h]
theorem ret_int {k : IntKind} {a b : Int} (h : a = b) : Ending.returned (.int k a) = .returned (.int k b) := by rw [h]
end Go.Proofs.YtfljhnalmiibeaaGreat

namespace Go.Proofs.YtfljhnalmiibeaaGreat
set_option maxRecDepth 100000
open Go.ChangeShapes Go.WideShapes Go.ChangeAt Go.RowKit
theorem Tryz.own_ : ownKnob Tryz.prog.godebug = none := by kernel_rfl
theorem Tryz.laid_ : laidOutB Tryz.prog = true := by kernel_rfl
theorem trodAll_below {H : Type} {enc : TypeId × Value → H} {P : Program} (hl : laidOutB P = true) {W W' : World} (hb : Below W.heap.size W W') :
    ∀ (ts : List TypeId) (vs : List Value) (ds : List (DataW H)) (ps : List MemPlace), ts.all (fun t => P.readableRec t && decide (t < P.types.size)) = true →
      DataW.TrodAll enc P W 0 (fun _ => true) true ts vs ds ps → (∀ x ∈ ps, x.block < W.heap.size) → DataW.TrodAll enc P W' 0 (fun b => decide (b < W.heap.size)) true ts vs ds ps
  | [], vs, ds, ps, _, h, _ => by
    obtain ⟨rfl, rfl, rfl⟩ := trodAll_nil h
    rfl
  | t :: ts, vs, ds, ps, ha, h, hlt => by
    obtain ⟨v, vs', d, ds', p, q, rfl, rfl, rfl, h0, h1⟩ := trodAll_cons h
    simp only [List.all_cons, Bool.and_eq_true, decide_eq_true_eq] at ha
    refine trodAll_cons_mk (Below.trod hl ha.1.1 ha.1.2 h0 hb (fun x hx => hlt x (by simp [hx]))) (trodAll_below hl hb ts vs' ds' q ?_ h1 (fun x hx => hlt x (by simp [hx])))
    simpa using ha.2
theorem law_step {H : Type} {enc : TypeId × Value → H} {P : Program} {s : ChangeSpec} {f : Func} {k : Nat} (tb : TypeId) (hl : laidOutB P = true)
    (hts : f.params.toList.all (fun t => P.readableRec t && decide (t < P.types.size)) = true) (hrt : f.resultTypes = #[tb]) (hb : P.underlying tb = some .bool) (hv : s.vars = [])
    {W : World} {args : Array Value} {ds gs : List (DataW H)} {before : List MemPlace} (hW : DataW.Whole enc P f.params.toList s.vars false W args.toList ds gs before)
    (hfn : ∀ xs : List (DataW H), xs.length = f.params.toList.length → s.fn H xs = { results := [.lit (.bool true)], args := xs })
    (hwalk : Calls P k args W fun e W' => e = .returned (.bool true) ∧ Below W.heap.size W W') :
    Calls P k args W fun e W' => ∃ v, e = .returned v ∧ s.post enc P f false true false false W args v W' := by
  have hlt : ∀ x ∈ before, x.block < W.heap.size := fun x hx => by simpa using hW.lt x hx
  have hW' := hW
  obtain ⟨p, q, hA, hV, rfl, _, _⟩ := hW
  rw [hv] at hV
  obtain ⟨rfl, rfl⟩ := trodVars_none hV
  have hlen : ∀ (ts : List TypeId) (vs : List Value) (ds : List (DataW H)) (ps : List MemPlace), DataW.TrodAll enc P W 0 (fun _ => true) true ts vs ds ps → ds.length = ts.length := by
    intro ts
    induction ts with
    | nil => intro vs ds ps h; obtain ⟨_, rfl, _⟩ := trodAll_nil h; rfl
    | cons t ts ih =>
      intro vs ds ps h
      obtain ⟨_, _, _, _, _, _, _, rfl, _, _, h1⟩ := trodAll_cons h
      simp [ih _ _ _ h1]
  have hf := hfn ds (hlen _ _ _ _ hA)
  refine hwalk.mono fun e W' ⟨he, hbel⟩ => ⟨_, he, ds, [], p ++ [], [] ++ [], p, [], hW', ?_, ?_, ?_, hbel.frame _, fun h => by cases h⟩
  · rw [List.append_nil, hf, hrt]
    exact trodAll_cons_mk (shut_bool hb _) trodAll_mk0
  · rw [List.append_nil, hf]
    exact trodAll_below hl hbel _ _ _ _ hts hA (fun x hx => hlt x (by simp [hx]))
  · rw [List.append_nil, hf, hv]
    rfl
/-- a slice of numbers that came in reads as a list -/
theorem open_sl {H : Type} {enc : TypeId × Value → H} {P : Program} {W : World} {base : Nat} {t e : TypeId} {k : IntKind} (ht : P.underlying t = some (.slice e)) (he : P.underlying e = some (.int k)) (hc : P.cellsOf e = 1)
    {v : Value} {d : DataW H} {ps : List MemPlace} (hval : Value.okWide P W .any base t v) (h : DataW.Trod enc P W 0 (fun _ => true) true t v d ps) (hlt : ∀ x ∈ ps, x.block < W.heap.size) :
    ∃ A n c l, v = .slice A n c ∧ Rd W A n c (vals k l) ∧ ∀ x ∈ l, (Lit.int k x).wf = true := by
  obtain ⟨a0, len, cap, rfl⟩ := okWide_slice ht hval
  obtain ⟨fuel, hf⟩ := h
  rcases open_ints ht he hc hf with ⟨hcs, hx⟩ | ⟨a, len', cap', zs, hcs, _, hl, hm, hz, hx, hcell, hwz⟩
  · simp [Value.cells] at hcs
    obtain ⟨rfl, rfl, rfl⟩ := hcs
    exact ⟨none, 0, 0, [], rfl, Rd.nil_ _, by simp⟩
  · simp [Value.cells] at hcs
    obtain ⟨rfl, rfl, rfl⟩ := hcs
    simp only [Prod.mk.injEq] at hx
    obtain ⟨rfl, rfl⟩ := hx
    simp only [if_true] at hz
    refine ⟨some a, len, cap, zs.take len, rfl, ⟨?_, hl, hm, fun h0 => ?_⟩, fun x hx => hwz x (List.mem_of_mem_take hx)⟩
    · rw [vals, List.length_map, List.length_take]; omega
    · obtain ⟨b, off, spot⟩ := a
      have hspot : spot = none := by simpa [Addr.add] using World.cell?_spot (hcell 0 (by omega))
      subst hspot
      refine ⟨b, off, rfl, hlt (.cell b off) (MemPlace.mem_row.2 ⟨0, by omega, by simp⟩), fun j hj => ?_⟩
      rw [vals, List.length_map, List.length_take] at hj
      have h1 := hcell j (by omega)
      have h2 : (⟨b, off, none⟩ : Addr).add j = ⟨b, off + j, none⟩ := by unfold Addr.add; by_cases hj0 : j = 0 <;> simp [hj0]
      rw [h2] at h1
      rw [h1]
      simp [vals, List.getD, List.getElem?_eq_getElem (show j < zs.length by omega)]
theorem wf_u8 {x : Int} (h : (Lit.int .u8 x).wf = true) : 0 ≤ x ∧ x ≤ 255 := by
  simpa [Lit.wf, IntKind.min, IntKind.max, IntKind.signed, IntKind.bits] using h
theorem wf_i64 {x : Int} (h : (Lit.int .i64 x).wf = true) : -9223372036854775808 ≤ x ∧ x ≤ 9223372036854775807 := by
  simpa [Lit.wf, IntKind.min, IntKind.max, IntKind.signed, IntKind.bits] using h
end Go.Proofs.YtfljhnalmiibeaaGreat

