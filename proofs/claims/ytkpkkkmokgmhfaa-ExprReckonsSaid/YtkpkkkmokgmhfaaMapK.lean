/- Maps that a call makes, whose keys are compared by '==': look-ups, stores, entries that are stored into. Of no program. -/
import Derived.Test.YtkpkkkmokgmhfaaMem
import Derived.WideKeyRuns
import Derived.MapKept
namespace Go.Proofs.Ytkpkkkmokgmhfaa
set_option maxRecDepth 100000
open Go.RowKit Go.MapKept
variable {K : Type} [DecidableEq K]

/-- what is known of a map's type -/
structure KeyOf (P : Program) (mt kt vt : TypeId) (enc : K → Value) (z : Value) : Prop where
  und : P.underlying mt = some (.map kt vt)
  find : ∀ k es w, (Instr.findKey kt (enc k) es).run P w = (Instr.findAsking kt (enc k) es).run P w
  chk : ∀ em k w, (Instr.checkKey em 10000 kt (enc k)).run P w = .ok () w
  eq : ∀ a b w, (Op.equal kt (enc a) (enc b)).run P w = .ok (decide (a = b)) w
  zero : ∀ w, (zeroValue vt).run P w = .ok z w
  bits : ∀ k, Instr.sameBits 10000 (enc k) (enc k) = true

/-- an entry -/
structure EnK (K : Type) where
  k : K
  v : Value
  b : Nat
def entK (enc : K → Value) (e : EnK K) : MapEntry := { key := enc e.k, val := e.v, born := e.b }
def mapO (enc : K → Value) (es : List (EnK K)) (clock : Nat) : Obj := .map (es.map (entK enc)).toArray clock
/-- what is there under a key -/
def lookE : List (EnK K) → K → Option Value
  | [], _ => none
  | e :: r, k => if k = e.k then some e.v else lookE r k
def findE : List (EnK K) → K → Nat → Option (Nat × Value)
  | [], _, _ => none
  | e :: r, k, i => if k = e.k then some (i, e.v) else findE r k (i + 1)
/-- with a value under a key -/
def putE : List (EnK K) → K → Value → Nat → List (EnK K)
  | [], k, v, c => [⟨k, v, c⟩]
  | e :: r, k, v, c => if k = e.k then ⟨k, v, e.b⟩ :: r else e :: putE r k v c
def clkE (es : List (EnK K)) (k : K) (c : Nat) : Nat := if (lookE es k).isSome = true then c else c + 1

theorem findE_look : ∀ (es : List (EnK K)) (k : K) (i : Nat), (findE es k i).map (·.2) = lookE es k
  | [], _, _ => rfl
  | e :: r, k, i => by
    rw [findE, lookE]
    split
    · rfl
    · exact findE_look r k (i + 1)
theorem lookE_put (es : List (EnK K)) (k x : K) (v : Value) (c : Nat) : lookE (putE es k v c) x = if x = k then some v else lookE es x := by
  induction es with
  | nil => rw [putE, lookE]; rfl
  | cons e r ih =>
    rw [putE]
    by_cases h : k = e.k
    · rw [if_pos h, lookE, lookE, ← h]
      by_cases hx : x = k
      · rw [if_pos hx, if_pos hx]
      · rw [if_neg hx, if_neg hx, if_neg hx]
    · rw [if_neg h, lookE, lookE, ih]
      by_cases hx : x = e.k
      · rw [if_pos hx, if_pos hx, if_neg (fun he => h (he.symm.trans hx))]
      · rw [if_neg hx, if_neg hx]
theorem lookE_append (es : List (EnK K)) (e : EnK K) (x : K) : lookE (es ++ [e]) x = match lookE es x with | some v => some v | none => if x = e.k then some e.v else none := by
  induction es with
  | nil => rw [List.nil_append, lookE, lookE]; rfl
  | cons a r ih =>
    rw [List.cons_append, lookE, lookE]
    split
    · rfl
    · exact ih
theorem putE_new {es : List (EnK K)} {k : K} (h : lookE es k = none) (v : Value) (c : Nat) : putE es k v c = es ++ [⟨k, v, c⟩] := by
  induction es with
  | nil => rfl
  | cons e r ih =>
    rw [lookE] at h
    split at h
    · cases h
    · rename_i hne
      rw [putE, if_neg hne, ih h, List.cons_append]
theorem mem_putE {es : List (EnK K)} {k : K} {v : Value} {c : Nat} {x : EnK K} (h : x ∈ putE es k v c) : x ∈ es ∨ x.k = k ∧ x.v = v ∧ (x.b = c ∨ ∃ e ∈ es, e.b = x.b) := by
  induction es with
  | nil => simp only [putE, List.mem_singleton] at h; subst h; exact .inr ⟨rfl, rfl, .inl rfl⟩
  | cons e r ih =>
    rw [putE] at h
    split at h
    · rcases List.mem_cons.1 h with rfl | h
      · exact .inr ⟨rfl, rfl, .inr ⟨e, .head _, rfl⟩⟩
      · exact .inl (.tail _ h)
    · rcases List.mem_cons.1 h with rfl | h
      · exact .inl (.head _)
      · rcases ih h with h | ⟨h1, h2, h3⟩
        · exact .inl (.tail _ h)
        · exact .inr ⟨h1, h2, h3.imp id fun ⟨e, he, h⟩ => ⟨e, .tail _ he, h⟩⟩
theorem findE_none {es : List (EnK K)} {k : K} {i : Nat} : findE es k i = none ↔ lookE es k = none := by
  rw [← findE_look es k i]; cases findE es k i <;> simp
theorem findE_some : ∀ {es : List (EnK K)} {k : K} {i j : Nat} {v : Value}, findE es k i = some (j, v) → ∃ (n b : Nat), j = i + n ∧ es[n]? = some ⟨k, v, b⟩ ∧ ∀ v' c, es.modify n (fun e => ⟨k, v', e.b⟩) = putE es k v' c
  | [], _, _, _, _, h => by cases h
  | e :: r, k, i, j, v, h => by
    rw [findE] at h
    split at h
    · rename_i hk
      injection h with h
      injection h with h1 h2
      subst h1 h2
      refine ⟨0, e.b, rfl, ?_, fun v' c => ?_⟩
      · obtain ⟨a, b, c⟩ := e; simp only at hk; subst hk; rfl
      · rw [putE, if_pos hk]; rfl
    · rename_i hk
      obtain ⟨n, b, h1, h2, h3⟩ := findE_some h
      refine ⟨n + 1, b, by omega, by simpa using h2, fun v' c => ?_⟩
      rw [putE, if_neg hk, ← h3 v' c]; rfl

section
variable {P : Program} {mt kt vt : TypeId} {enc : K → Value} {z : Value}

theorem run_askingK (L : KeyOf P mt kt vt enc z) (k : K) (w : World) : ∀ (es : List (EnK K)) (i : Nat), (Instr.findAsking kt (enc k) (es.map (entK enc)) i).run P w = .ok (findE es k i) w
  | [], _ => rfl
  | e :: r, i => by
    rw [List.map_cons]
    unfold Instr.findAsking
    have hq := L.eq k e.k w
    simp only [entK, Sem.run_bind, hq, Result.andThen_ok]
    rw [findE]
    by_cases h : k = e.k
    · simp [h]
    · have := run_askingK L k w r (i + 1)
      simp only [h, decide_false, if_false, Bool.false_eq_true]
      exact this

theorem run_lookK (L : KeyOf P mt kt vt enc z) {w : World} {g : Nat} {es : List (EnK K)} {clock : Nat} (h : w.heap[g]? = some (mapO enc es clock)) (k : K) :
    (Instr.lookup mt (.map (some g)) (enc k) false).run P w = .ok ((lookE es k).getD z) w := by
  have hf := (L.find k (es.map (entK enc)) w).trans (run_askingK L k w es 0)
  have hq := L.chk
  have hz := L.zero w
  rw [← findE_look es k 0]
  have hg : (getObj g).run P w = .ok (.map (es.map (entK enc)).toArray clock) w := Go.MapKept.run_getObj_map h
  cases hr : findE es k 0 with
  | none => rw [hr] at hf; simp [Instr.lookup, run_underlying L.und, hg, hq, hf, hz, Result.andThen]
  | some r => rw [hr] at hf; obtain ⟨i, v⟩ := r; simp [Instr.lookup, run_underlying L.und, hg, hq, hf, Result.andThen]
theorem run_lookOkK (L : KeyOf P mt kt vt enc z) {w : World} {g : Nat} {es : List (EnK K)} {clock : Nat} (h : w.heap[g]? = some (mapO enc es clock)) (k : K) :
    (Instr.lookup mt (.map (some g)) (enc k) true).run P w = .ok (.tuple #[(lookE es k).getD z, .bool (lookE es k).isSome]) w := by
  have hf := (L.find k (es.map (entK enc)) w).trans (run_askingK L k w es 0)
  have hq := L.chk
  have hz := L.zero w
  rw [← findE_look es k 0]
  have hg : (getObj g).run P w = .ok (.map (es.map (entK enc)).toArray clock) w := Go.MapKept.run_getObj_map h
  cases hr : findE es k 0 with
  | none => rw [hr] at hf; simp [Instr.lookup, run_underlying L.und, hg, hq, hf, hz, Result.andThen]
  | some r => rw [hr] at hf; obtain ⟨i, v⟩ := r; simp [Instr.lookup, run_underlying L.und, hg, hq, hf, Result.andThen]

/-- the world with another object in a block -/
def putBlock (w : World) (g : Nat) (o : Obj) : World := { w with heap := w.heap.setIfInBounds g o }
theorem putBlock_size (w : World) (g : Nat) (o : Obj) : (putBlock w g o).heap.size = w.heap.size := by simp [putBlock]
theorem putBlock_at {w : World} {g : Nat} {o o' : Obj} (h : w.heap[g]? = some o') : (putBlock w g o).heap[g]? = some o := (heap_set h).1
theorem putBlock_other (w : World) {g k : Nat} (o : Obj) (h : k ≠ g) : (putBlock w g o).heap[k]? = w.heap[k]? := by
  show (w.heap.setIfInBounds g o)[k]? = _
  rw [Array.getElem?_setIfInBounds_ne (Ne.symm h)]
theorem putBlock_cell (w : World) {g : Nat} (o : Obj) (p : Addr) (h : p.block ≠ g) : (putBlock w g o).cell? p = w.cell? p := by
  simp only [World.cell?, putBlock_other w o h]
theorem below_putBlock {B : Nat} {a w : World} {g : Nat} {o : Obj} (h : Below B a w) (hg : B ≤ g) : Below B a (putBlock w g o) :=
  h.trans ⟨rfl, rfl, rfl, by rw [putBlock_size]; exact Nat.le_refl _, fun k hk => putBlock_other w o (by omega)⟩

theorem run_putK (L : KeyOf P mt kt vt enc z) {w : World} {g : Nat} {es : List (EnK K)} {clock : Nat} (h : w.heap[g]? = some (mapO enc es clock)) (k : K) (v : Value) :
    (Instr.mapUpdate mt (.map (some g)) (enc k) v).run P w = .ok () (putBlock w g (mapO enc (putE es k v clock) (clkE es k clock))) := by
  have hf := (L.find k (es.map (entK enc)) w).trans (run_askingK L k w es 0)
  have hq := L.chk
  have hg : (getObj g).run P w = .ok (.map (es.map (entK enc)).toArray clock) w := Go.MapKept.run_getObj_map h
  have hs := fun o => Go.MapKept.run_setObj_map (P := P) o h
  cases hr : findE es k 0 with
  | none =>
    rw [hr] at hf
    have hl := findE_none.1 hr
    have hc : clkE es k clock = clock + 1 := by rw [clkE, hl]; rfl
    rw [putE_new hl, hc]
    simp [Instr.mapUpdate, run_underlying L.und, hg, hq, hf, hs, Result.andThen, mapO, putBlock, entK]
  | some r =>
    obtain ⟨j, v0⟩ := r
    rw [hr] at hf
    obtain ⟨n, b, h1, h2, h3⟩ := findE_some hr
    rw [Nat.zero_add] at h1
    subst h1
    have hl : (lookE es k).isSome = true := by rw [← findE_look es k 0, hr]; rfl
    have hc : clkE es k clock = clock := by rw [clkE, if_pos hl]
    have hkey : ((es.map (entK enc)).toArray[j]?.map (·.key)).getD (enc k) = enc k := by simp [h2, entK]
    have hm : ((es.map (entK enc)).toArray.modify j fun e => { e with key := enc k, val := v }) = ((putE es k v clock).map (entK enc)).toArray := by
      rw [List.modify_toArray, ← h3 v clock]
      congr 1
      apply List.ext_getElem?
      intro i
      rw [List.getElem?_modify, List.getElem?_map, List.getElem?_map, List.getElem?_modify]
      by_cases hi : j = i
      · subst hi; simp [h2, entK]
      · simp [hi]
    rw [hc]
    simp only [Instr.mapUpdate, Sem.run_bind, run_underlying L.und, Result.andThen_ok, hg, hq, hf, hkey, Instr.keyThatStays, L.bits, if_true, Sem.run_pure, hm, hs, mapO, putBlock]

theorem run_entryK (L : KeyOf P mt kt vt enc z) {w : World} {g : Nat} {es : List (EnK K)} {clock : Nat} (h : w.heap[g]? = some (mapO enc es clock)) (k : K) (hn : lookE es k = none) :
    (Instr.mapEntry mt (.map (some g)) (enc k)).run P w = .ok (.tuple #[z, .int .i64 clock]) (putBlock w g (mapO enc (es ++ [⟨k, z, clock⟩]) (clock + 1))) := by
  have hf := (L.find k (es.map (entK enc)) w).trans (run_askingK L k w es 0)
  have hq := L.chk
  have hz := L.zero w
  have hg : (getObj g).run P w = .ok (.map (es.map (entK enc)).toArray clock) w := Go.MapKept.run_getObj_map h
  have hs := fun o => Go.MapKept.run_setObj_map (P := P) o h
  rw [findE_none.2 hn] at hf
  simp [Instr.mapEntry, run_underlying L.und, hg, hq, hf, hz, hs, Result.andThen, mapO, putBlock, entK, goInt]
end

theorem run_entryStoreK {P : Program} {mt : TypeId} {J : Type} {enc : J → Value} {w : World} {g : Nat} {es : List (EnK J)} {clock : Nat} {k : J} {y : Value} (h : w.heap[g]? = some (mapO enc (es ++ [⟨k, y, clock⟩]) (clock + 1))) (hb : ∀ e ∈ es, e.b < clock) (v : Value) :
    (Instr.entryStore mt (.map (some g)) (.int .i64 clock) v).run P w = .ok () (putBlock w g (mapO enc (es ++ [⟨k, v, clock⟩]) (clock + 1))) := by
  have hg : (getObj g).run P w = .ok (.map ((es ++ [(⟨k, y, clock⟩ : EnK J)]).map (entK enc)).toArray (clock + 1)) w := Go.MapKept.run_getObj_map h
  have hs := fun o => Go.MapKept.run_setObj_map (P := P) o h
  have hi : ((es ++ [(⟨k, y, clock⟩ : EnK J)]).map (entK enc)).toArray.findIdx? (fun e : MapEntry => (e.born : Int) == clock) = some es.length := by
    rw [List.findIdx?_toArray, List.map_append, List.findIdx?_append]
    have : (es.map (entK enc)).findIdx? (fun e : MapEntry => (e.born : Int) == clock) = none := by
      rw [List.findIdx?_eq_none_iff]
      intro x hx
      obtain ⟨e, he, rfl⟩ := List.mem_map.1 hx
      have := hb e he
      simp [entK]; omega
    rw [this]
    simp [entK]
  have hm : (((es ++ [(⟨k, y, clock⟩ : EnK J)]).map (entK enc)).toArray.modify es.length fun e : MapEntry => { e with val := v }) = ((es ++ [(⟨k, v, clock⟩ : EnK J)]).map (entK enc)).toArray := by
    rw [List.modify_toArray]
    congr 1
    apply List.ext_getElem?
    intro i
    rw [List.getElem?_modify, List.getElem?_map, List.getElem?_map]
    by_cases hi : es.length = i
    · subst hi; simp [entK]
    · simp only [hi, if_false]
      rcases Nat.lt_or_gt_of_ne hi with h1 | h1
      · rw [List.getElem?_eq_none (by simp; omega), List.getElem?_eq_none (by simp; omega)]; rfl
      · rw [List.getElem?_append_left h1, List.getElem?_append_left h1]; simp
  have ha : (asIntOf (Value.int IntKind.i64 (clock : Int))).run P w = .ok (.i64, (clock : Int)) w := rfl
  unfold Instr.entryStore
  simp only [Sem.run_bind, Sem.run_pure, Result.andThen_ok, hg, asInt, ha]
  rw [hi]
  simp only [hm]
  exact hs _
/-- what lies in a block, as the walk of a drawn region bears it -/
def AtO (g : Nat) (o : Obj) (W : World) : Prop := W.heap[g]? = some o
theorem AtO.drew (g : Nat) (o : Obj) (W : World) : AtO g o W.drew = AtO g o W := rfl
theorem AtO.alloc {K : Type} (g : Nat) (enc : K → Value) (es : List (EnK K)) (c : Nat) (W : World) (cs : Array Value) (t : TypeId) : AtO g (mapO enc es c) (W.alloc (.cells cs t)) = AtO g (mapO enc es c) W := by
  unfold AtO
  by_cases hq : g < W.heap.size
  · rw [Below.heap_alloc _ _ _ hq]
  · have e1 : W.heap[g]? = none := Array.getElem?_eq_none (by omega)
    rw [e1]
    by_cases hq2 : g = W.heap.size
    · rw [hq2, heap_alloc_new]; simp [mapO]
    · rw [Array.getElem?_eq_none (by rw [World.size_alloc]; omega)]
theorem AtO.put (g h : Nat) (o o' : Obj) (W : World) (hn : g ≠ h) : AtO g o (putBlock W h o') = AtO g o W := by
  unfold AtO; rw [putBlock_other _ _ hn]
end Go.Proofs.Ytkpkkkmokgmhfaa
