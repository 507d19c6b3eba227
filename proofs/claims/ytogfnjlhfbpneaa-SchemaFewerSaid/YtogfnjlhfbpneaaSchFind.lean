/- Layer 11: slices.IndexFunc over tables, columns, bounds; Table and Column, the code's and the document's. Written by schfind.py. -/
import Derived.Test.YtogfnjlhfbpneaaSchName
import Derived.Shelf.Abstract
import Derived.Lib.Strings
import Derived.Deep.CutBlock
import Derived.Deep.DeepCutAuto
namespace Go.Proofs.Ytogfnjlhfbpneaa
set_option maxRecDepth 100000
open Go.RowKit

set_option maxHeartbeats 1600000 in
theorem found_any (o : Option Nat) (n : Nat) (ho : ∀ k, o = some k → k < n) (w : World) : Calls Try.prog 29 #[.int .i64 (placeE o)] w fun e w' => e = .returned (.tuple #[.int .i64 (at0 o), .bool o.isSome]) ∧ Below w.heap.size w w' := by
  have hb := Lib.hid (Below.refl w.heap.size w)
  go_enter Try.func29, Try.ntmps29
  cases o with
  | none =>
    simp only [placeE, at0, Option.isSome]
    go_wp2
    go_ret2
    exact ⟨rfl, hb.out⟩
  | some k =>
    have := ho k rfl
    simp only [placeE, at0, Option.isSome]
    have h1 : max (k : Int) 0 = (k : Int) := by omega
    have h2 : (0 : Int) ≤ (k : Int) := by omega
    have h3 : (k : Int) ≥ 0 := h2
    go_wp2
    go_ret2
    exact ⟨rfl, hb.out⟩

theorem str_eq (a b : ByteArray) : (a.toList == b.toList) = decide (a = b) := by
  by_cases h : a = b
  · subst h; simp
  · have : (a.toList == b.toList) = false := by simpa using fun e => h (by
      rw [Lib.toList_data, Lib.toList_data] at e
      exact ByteArray.ext (Array.toList_inj.1 e))
    rw [this, decide_eq_false h]
theorem findP_hit {α : Type} {p : α → Bool} {l : List α} {k : Nat} {x : α} (hx : l[k]? = some x) (hp : p x = true) (ha : ∀ j y, j < k → l[j]? = some y → p y = false) : findP p l = some k := (findP_some p l k).2 ⟨x, hx, hp, ha⟩
theorem findP_miss {α : Type} {p : α → Bool} {l : List α} {n : Nat} (hn : l.length ≤ n) (ha : ∀ j y, j < n → l[j]? = some y → p y = false) : findP p l = none := by
  refine (findP_none p l).2 fun x hx => ?_
  obtain ⟨j, hj, rfl⟩ := List.getElem_of_mem hx
  exact ha j _ (by omega) (List.getElem?_eq_getElem hj)
theorem ahead_next {α : Type} {p : α → Bool} {l : List α} {k : Nat} {x : α} (hx : l[k]? = some x) (hp : p x = false) (ha : ∀ j y, j < k → l[j]? = some y → p y = false) : ∀ j y, j < k + 1 → l[j]? = some y → p y = false := by
  intro j y hj hy
  by_cases h : j = k
  · subst h; rw [hx] at hy; cases hy; exact hp
  · exact ha j y (by omega) hy
theorem findP_lt {α : Type} {p : α → Bool} {l : List α} {k : Nat} (h : findP p l = some k) : k < l.length := by
  obtain ⟨x, hx, _⟩ := (findP_some p l k).1 h
  exact (List.getElem?_eq_some_iff.1 hx).1

set_option maxHeartbeats 3200000 in
theorem indexT_any (g : Nat) (cb : Array Value) (p : T6 → Bool) (A : Option Addr) (n c : Nat) (l : List T6) (w : World) (eg : ∀ args w, (callFunc g args).run Try.prog w = .ok (.enter g args) w)
    (h : RdS w A n c l) (hp : TellsA Try.prog g cb T6.agg p w) :
    Calls Try.prog 30 #[.slice A n c, .func (.func g) #[] cb] w fun e w' => e = .returned (.int .i64 (placeE (findP p l))) ∧ Below w.heap.size w w' := by
  have hle := h.le
  have HR := Lib.hid h; have HL := Lib.hid h.len; have HP := Lib.hid hp
  have HB0 := Lib.hid (Below.refl w.heap.size w)
  obtain ⟨r, hr⟩ : ∃ r, Hid (placeE (findP p l) = r) := ⟨_, rfl⟩
  rw [hr.out]
  clear h hp
  go_enter Try.func30, Try.ntmps30
  go_wp2_with fail
  go_loopw [8] (fun i wr => ∃ k : Nat, k ≤ n ∧ i = .int .i64 k ∧ Hid (∀ j y, j < k → l[j]? = some y → p y = false) ∧ Hid (Below w.heap.size w wr)) (fun i _ => n - (intOf i).toNat)
  case atStart => exact ⟨0, Nat.zero_le _, rfl, by show ∀ j y, _; intro j y h; exact absurd h (by omega), HB0⟩
  case round =>
    clear HB0
    obtain ⟨k, hk, rfl, hA, HB⟩ := hrel
    by_cases hlt : k < n
    · obtain ⟨b, o, x, rfl, hb, hx, hxr, hld⟩ := HR.out.tab hlt
      obtain ⟨c0, c1, c2, c3, c4, c5⟩ := hld wr HB.out
      have y1 : (k : Int) < (n : Int) := by omega
      have y0 : (0 : Int) ≤ (k : Int) := by omega
      obtain ⟨q, hq⟩ : ∃ q, Hid (p x = q) := ⟨_, rfl⟩
      have C : Hid (Calls Try.prog g (#[T6.agg x] ++ cb) wr fun e W' => e = .returned (.bool q) ∧ Below wr.heap.size wr W') := by
        have := HP.out wr HB.out x
        rwa [hq.out] at this
      have HX := Lib.hid hx
      clear hld hx hxr hb
      go_wp2_with fail
      refine C.out.mono ?_
      rintro e w2 ⟨rfl, b2⟩
      have HB2 := Lib.hid (below_then HB.out b2)
      clear C b2 HB
      cases q with
      | true =>
        have h3 : Hid (r = (k : Int)) := by show _ = _; rw [← hr.out, findP_hit HX.out hq.out hA.out]; rfl
        go_wp2_with fail
        go_ret
        exact ⟨ret_int h3.out.symm, HB2.out⟩
      | false =>
        have h3 : Hid (∀ j y, j < k + 1 → l[j]? = some y → p y = false) := by show ∀ j y, _; exact ahead_next HX.out hq.out hA.out
        go_wp2_with fail
        exact ⟨⟨k + 1, by omega, by go_num, h3, HB2⟩, by simp [intOf]; omega⟩
    · obtain rfl : k = n := by omega
      have h3 : Hid (r = -1) := by show _ = _; rw [← hr.out, findP_miss (Nat.le_of_eq HL.out) hA.out]; rfl
      have y1 : ¬ (k : Int) < (k : Int) := by omega
      go_wp2_with fail
      go_ret
      exact ⟨ret_int h3.out.symm, HB.out⟩

set_option maxHeartbeats 3200000 in
theorem indexC_any (g : Nat) (cb : Array Value) (p : C4 → Bool) (A : Option Addr) (n c : Nat) (l : List C4) (w : World) (eg : ∀ args w, (callFunc g args).run Try.prog w = .ok (.enter g args) w)
    (h : RdC w A n c l) (hp : TellsA Try.prog g cb C4.agg p w) :
    Calls Try.prog 32 #[.slice A n c, .func (.func g) #[] cb] w fun e w' => e = .returned (.int .i64 (placeE (findP p l))) ∧ Below w.heap.size w w' := by
  have hle := h.le
  have HR := Lib.hid h; have HL := Lib.hid h.len; have HP := Lib.hid hp
  have HB0 := Lib.hid (Below.refl w.heap.size w)
  obtain ⟨r, hr⟩ : ∃ r, Hid (placeE (findP p l) = r) := ⟨_, rfl⟩
  rw [hr.out]
  clear h hp
  go_enter Try.func32, Try.ntmps32
  go_wp2_with fail
  go_loopw [8] (fun i wr => ∃ k : Nat, k ≤ n ∧ i = .int .i64 k ∧ Hid (∀ j y, j < k → l[j]? = some y → p y = false) ∧ Hid (Below w.heap.size w wr)) (fun i _ => n - (intOf i).toNat)
  case atStart => exact ⟨0, Nat.zero_le _, rfl, by show ∀ j y, _; intro j y h; exact absurd h (by omega), HB0⟩
  case round =>
    clear HB0
    obtain ⟨k, hk, rfl, hA, HB⟩ := hrel
    by_cases hlt : k < n
    · obtain ⟨b, o, x, rfl, hb, hx, hld⟩ := HR.out.col hlt
      obtain ⟨c0, c1, c2, c3⟩ := hld wr HB.out
      have y1 : (k : Int) < (n : Int) := by omega
      have y0 : (0 : Int) ≤ (k : Int) := by omega
      obtain ⟨q, hq⟩ : ∃ q, Hid (p x = q) := ⟨_, rfl⟩
      have C : Hid (Calls Try.prog g (#[C4.agg x] ++ cb) wr fun e W' => e = .returned (.bool q) ∧ Below wr.heap.size wr W') := by
        have := HP.out wr HB.out x
        rwa [hq.out] at this
      have HX := Lib.hid hx
      clear hld hx hb
      go_wp2_with fail
      refine C.out.mono ?_
      rintro e w2 ⟨rfl, b2⟩
      have HB2 := Lib.hid (below_then HB.out b2)
      clear C b2 HB
      cases q with
      | true =>
        have h3 : Hid (r = (k : Int)) := by show _ = _; rw [← hr.out, findP_hit HX.out hq.out hA.out]; rfl
        go_wp2_with fail
        go_ret
        exact ⟨ret_int h3.out.symm, HB2.out⟩
      | false =>
        have h3 : Hid (∀ j y, j < k + 1 → l[j]? = some y → p y = false) := by show ∀ j y, _; exact ahead_next HX.out hq.out hA.out
        go_wp2_with fail
        exact ⟨⟨k + 1, by omega, by go_num, h3, HB2⟩, by simp [intOf]; omega⟩
    · obtain rfl : k = n := by omega
      have h3 : Hid (r = -1) := by show _ = _; rw [← hr.out, findP_miss (Nat.le_of_eq HL.out) hA.out]; rfl
      have y1 : ¬ (k : Int) < (k : Int) := by omega
      go_wp2_with fail
      go_ret
      exact ⟨ret_int h3.out.symm, HB.out⟩

set_option maxHeartbeats 3200000 in
theorem indexF_any (g : Nat) (cb : Array Value) (p : F3 → Bool) (A : Option Addr) (n c : Nat) (l : List F3) (w : World) (eg : ∀ args w, (callFunc g args).run Try.prog w = .ok (.enter g args) w)
    (h : RdF w A n c l) (hp : TellsA Try.prog g cb F3.agg p w) :
    Calls Try.prog 60 #[.slice A n c, .func (.func g) #[] cb] w fun e w' => e = .returned (.int .i64 (placeE (findP p l))) ∧ Below w.heap.size w w' := by
  have hle := h.le
  have HR := Lib.hid h; have HL := Lib.hid h.len; have HP := Lib.hid hp
  have HB0 := Lib.hid (Below.refl w.heap.size w)
  obtain ⟨r, hr⟩ : ∃ r, Hid (placeE (findP p l) = r) := ⟨_, rfl⟩
  rw [hr.out]
  clear h hp
  go_enter Try.func60, Try.ntmps60
  go_wp2_with fail
  go_loopw [8] (fun i wr => ∃ k : Nat, k ≤ n ∧ i = .int .i64 k ∧ Hid (∀ j y, j < k → l[j]? = some y → p y = false) ∧ Hid (Below w.heap.size w wr)) (fun i _ => n - (intOf i).toNat)
  case atStart => exact ⟨0, Nat.zero_le _, rfl, by show ∀ j y, _; intro j y h; exact absurd h (by omega), HB0⟩
  case round =>
    clear HB0
    obtain ⟨k, hk, rfl, hA, HB⟩ := hrel
    by_cases hlt : k < n
    · obtain ⟨b, o, x, rfl, hb, hx, hld⟩ := HR.out.f3 hlt
      obtain ⟨c0, c1, c2⟩ := hld wr HB.out
      have y1 : (k : Int) < (n : Int) := by omega
      have y0 : (0 : Int) ≤ (k : Int) := by omega
      obtain ⟨q, hq⟩ : ∃ q, Hid (p x = q) := ⟨_, rfl⟩
      have C : Hid (Calls Try.prog g (#[F3.agg x] ++ cb) wr fun e W' => e = .returned (.bool q) ∧ Below wr.heap.size wr W') := by
        have := HP.out wr HB.out x
        rwa [hq.out] at this
      have HX := Lib.hid hx
      clear hld hx hb
      go_wp2_with fail
      refine C.out.mono ?_
      rintro e w2 ⟨rfl, b2⟩
      have HB2 := Lib.hid (below_then HB.out b2)
      clear C b2 HB
      cases q with
      | true =>
        have h3 : Hid (r = (k : Int)) := by show _ = _; rw [← hr.out, findP_hit HX.out hq.out hA.out]; rfl
        go_wp2_with fail
        go_ret
        exact ⟨ret_int h3.out.symm, HB2.out⟩
      | false =>
        have h3 : Hid (∀ j y, j < k + 1 → l[j]? = some y → p y = false) := by show ∀ j y, _; exact ahead_next HX.out hq.out hA.out
        go_wp2_with fail
        exact ⟨⟨k + 1, by omega, by go_num, h3, HB2⟩, by simp [intOf]; omega⟩
    · obtain rfl : k = n := by omega
      have h3 : Hid (r = -1) := by show _ = _; rw [← hr.out, findP_miss (Nat.le_of_eq HL.out) hA.out]; rfl
      have y1 : ¬ (k : Int) < (k : Int) := by omega
      go_wp2_with fail
      go_ret
      exact ⟨ret_int h3.out.symm, HB.out⟩

theorem Try.egCloT : ∀ args w, (callFunc 31 args).run Try.prog w = .ok (.enter 31 args) w := enters_of Try.func31 (by kernel_rfl) rfl
set_option maxHeartbeats 1600000 in
theorem cloT_any (s : ByteArray) (g : Nat) (w0 : World) (hs : w0.cell? ⟨g, 0, none⟩ = some (.string s)) :
    TellsA Try.prog 31 #[.pointer (some ⟨g, 0, none⟩)] T6.agg (fun t => decide (t.nm = s)) w0 := by
  intro W hW x
  have B1 := below_new hW (tabBox x)
  have hg := heap_alloc_new W (tabBox x)
  have hc := tab_row hg
  obtain ⟨c0, _⟩ := hc
  have d0 := (B1.cell (p := ⟨g, 0, none⟩) (block_lt_of_cell hs)).trans hs
  have HB := Lib.hid (below_new (Below.refl W.heap.size W) (tabBox x))
  obtain ⟨q, hq⟩ : ∃ q, decide (x.nm = s) = q := ⟨_, rfl⟩
  have hq2 : (x.nm.toList == s.toList) = q := by rw [← hq]; exact str_eq _ _
  show Calls _ _ _ _ fun e W' => e = .returned (.bool (decide (x.nm = s))) ∧ _
  rw [hq]
  clear hs hg
  go_enter Try.func31, Try.ntmps31
  go_wp2
  go_ret
  exact ⟨rfl, HB.out⟩

theorem Try.egCloC : ∀ args w, (callFunc 33 args).run Try.prog w = .ok (.enter 33 args) w := enters_of Try.func33 (by kernel_rfl) rfl
set_option maxHeartbeats 1600000 in
theorem cloC_any (s : ByteArray) (g : Nat) (w0 : World) (hs : w0.cell? ⟨g, 0, none⟩ = some (.string s)) :
    TellsA Try.prog 33 #[.pointer (some ⟨g, 0, none⟩)] C4.agg (fun t => decide (t.nm = s)) w0 := by
  intro W hW x
  have B1 := below_new hW (colBox x)
  have hg := heap_alloc_new W (colBox x)
  have hc := col_row hg
  obtain ⟨c0, _⟩ := hc
  have d0 := (B1.cell (p := ⟨g, 0, none⟩) (block_lt_of_cell hs)).trans hs
  have HB := Lib.hid (below_new (Below.refl W.heap.size W) (colBox x))
  obtain ⟨q, hq⟩ : ∃ q, decide (x.nm = s) = q := ⟨_, rfl⟩
  have hq2 : (x.nm.toList == s.toList) = q := by rw [← hq]; exact str_eq _ _
  show Calls _ _ _ _ fun e W' => e = .returned (.bool (decide (x.nm = s))) ∧ _
  rw [hq]
  clear hs hg
  go_enter Try.func33, Try.ntmps33
  go_wp2
  go_ret
  exact ⟨rfl, HB.out⟩

theorem Try.egCloF : ∀ args w, (callFunc 54 args).run Try.prog w = .ok (.enter 54 args) w := enters_of Try.func54 (by kernel_rfl) rfl
set_option maxHeartbeats 1600000 in
theorem cloF_any (s : F3) (g : Nat) (w0 : World) (hs : w0.heap[g]? = some (sumBox s)) :
    TellsA Try.prog 54 #[.pointer (some ⟨g, 0, none⟩)] F3.agg (fun x => decide (x.a = s.a) && decide (x.b = s.b)) w0 := by
  intro W hW x
  have B1 := below_new hW (sumBox x)
  have hg := heap_alloc_new W (sumBox x)
  obtain ⟨c0, c1, c2⟩ := f3_row hg
  obtain ⟨d0, d1, d2⟩ := f3_row (row_below hs B1)
  have HB := Lib.hid (below_new (Below.refl W.heap.size W) (sumBox x))
  obtain ⟨q, hq⟩ : ∃ q, decide (x.a = s.a) = q := ⟨_, rfl⟩
  have hq2 : (x.a == s.a) = q := by rw [← hq]; by_cases h : x.a = s.a <;> simp [h]
  obtain ⟨r, hr⟩ : ∃ r, decide (x.b = s.b) = r := ⟨_, rfl⟩
  have hr2 : (x.b == s.b) = r := by rw [← hr]; by_cases h : x.b = s.b <;> simp [h]
  show Calls _ _ _ _ fun e W' => e = .returned (.bool (decide (x.a = s.a) && decide (x.b = s.b))) ∧ _
  rw [hq, hr]
  clear hs hg
  go_enter Try.func54, Try.ntmps54
  cases q with
  | true =>
    rw [Bool.true_and]
    go_wp2
    go_ret
    exact ⟨rfl, HB.out⟩
  | false =>
    rw [Bool.false_and]
    go_wp2
    go_ret
    exact ⟨rfl, HB.out⟩

set_option maxHeartbeats 1600000 in
theorem contains_any (g : Nat) (cb : Array Value) (p : F3 → Bool) (A : Option Addr) (n c : Nat) (l : List F3) (w : World) (eg : ∀ args w, (callFunc g args).run Try.prog w = .ok (.enter g args) w)
    (h : RdF w A n c l) (hp : TellsA Try.prog g cb F3.agg p w) :
    Calls Try.prog 55 #[.slice A n c, .func (.func g) #[] cb] w fun e w' => e = .returned (.bool (l.any p)) ∧ Below w.heap.size w w' := by
  have C := Lib.hid (indexF_any g cb p A n c l w eg h hp)
  obtain ⟨q, hq⟩ : ∃ q, Hid (l.any p = q) := ⟨_, rfl⟩
  have HQ : Hid ((findP p l).isSome = q) := by show _ = _; rw [← hq.out]; exact findP_any p l
  rw [hq.out]
  go_enter Try.func55, Try.ntmps55
  go_wp2_with fail
  refine C.out.mono ?_
  rintro e w2 ⟨rfl, b2⟩
  have HB := Lib.hid b2
  clear C b2 hq h hp
  cases hf : findP p l with
  | none =>
    rw [hf] at HQ
    have e1 : q = false := HQ.out.symm
    subst e1
    rw [show placeE none = -1 from rfl]
    clear HQ hf
    go_wp2_with fail
    go_ret
    exact ⟨rfl, HB.out⟩
  | some k =>
    rw [hf] at HQ
    have e1 : q = true := HQ.out.symm
    subst e1
    rw [show placeE (some k) = (k : Int) from rfl]
    clear HQ hf
    have h1 : (0 : Int) ≤ (k : Int) := by omega
    go_wp2_with fail
    go_ret
    exact ⟨rfl, HB.out⟩

theorem place_lt {α : Type} {p : α → Bool} {l : List α} {n : Nat} (hn : l.length = n) : ∀ k, findP p l = some k → k < n := fun k h => by rw [← hn]; exact findP_lt h
set_option maxHeartbeats 1600000 in
theorem table_any (A : Option Addr) (n c : Nat) (l : List T6) (s : ByteArray) (w : World) (h : RdS w A n c l) :
    Calls Try.prog 16 #[.agg #[.slice A n c], .string s] w fun e w' => e = .returned (.tuple #[.int .i64 (at0 (tableP l s)), .bool (tableP l s).isSome]) ∧ Below w.heap.size w w' := by
  have hle := h.le
  obtain ⟨w1, hw1⟩ : ∃ w1, w1 = (w.alloc (schBox A n c)).alloc (.cells #[.string s] 9) := ⟨_, rfl⟩
  have HW1 := Lib.hid hw1
  have hb1 : Hid (Below w.heap.size w w1) := by rw [hw1]; exact below_new (below_new (Below.refl _ _) _) _
  have r0 : w1.heap[w.heap.size]? = some (schBox A n c) := by rw [hw1, Below.heap_alloc _ _ _ (by simp)]; exact heap_alloc_new _ _
  have r1 : w1.heap[w.heap.size + 1]? = some (.cells #[.string s] 9) := by
    rw [hw1]
    have := heap_alloc_new (w.alloc (schBox A n c)) (.cells #[.string s] 9)
    rwa [World.size_alloc] at this
  have c0 := sch_row r0
  have C := Lib.hid (indexT_any 31 #[.pointer (some ⟨w.heap.size + 1, 0, none⟩)] (fun t => decide (t.nm = s)) A n c l w1 Try.egCloT (h.below hb1.out) (cloT_any s (w.heap.size + 1) w1 (str_row r1)))
  obtain ⟨o, ho, hlt⟩ : ∃ o, Hid (findP (fun t : T6 => decide (t.nm = s)) l = o) ∧ Hid (∀ k, o = some k → k < n) := ⟨_, rfl, fun k hk => place_lt h.len k hk⟩
  rw [show tableP l s = o from ho.out]
  rw [ho.out] at C
  have C2 : Hid (∀ W, Calls Try.prog 29 #[.int .i64 (placeE o)] W fun e w' => e = .returned (.tuple #[.int .i64 (at0 o), .bool o.isSome]) ∧ Below W.heap.size W w') := fun W => found_any o n hlt.out W
  generalize placeE o = z at C C2
  generalize at0 o = z0 at C2 ⊢
  generalize o.isSome = q0 at C2 ⊢
  clear hw1 r0 r1 h ho hlt
  go_enter Try.func16, Try.ntmps16
  go_upto_region 1 with fail
  rw [show (w.alloc (schBox A n c)).alloc (.cells #[.string s] 9) = w1 from HW1.out.symm]
  clear HW1
  go_wp2_with fail
  refine C.out.mono ?_
  rintro e w2 ⟨rfl, b2⟩
  have HB2 := Lib.hid (below_then hb1.out b2)
  clear C b2 c0
  go_wp2_with fail
  refine (C2.out w2).mono ?_
  rintro e w3 ⟨rfl, b3⟩
  have HB3 := Lib.hid (below_then HB2.out b3)
  clear C2 b3
  go_wp2_with fail
  go_ret2
  exact ⟨rfl, HB3.out⟩

set_option maxHeartbeats 1600000 in
theorem column_any (t : T6) (s : ByteArray) (w : World) (h : RdC w t.ca t.nc t.cc t.cols) :
    Calls Try.prog 18 #[t.agg, .string s] w fun e w' => e = .returned (.tuple #[.int .i64 (at0 (columnP t.cols s)), .bool (columnP t.cols s).isSome]) ∧ Below w.heap.size w w' := by
  have hle := h.le
  obtain ⟨w1, hw1⟩ : ∃ w1, w1 = (w.alloc (tabBox t)).alloc (.cells #[.string s] 9) := ⟨_, rfl⟩
  have HW1 := Lib.hid hw1
  have hb1 : Hid (Below w.heap.size w w1) := by rw [hw1]; exact below_new (below_new (Below.refl _ _) _) _
  have r0 : w1.heap[w.heap.size]? = some (tabBox t) := by rw [hw1, Below.heap_alloc _ _ _ (by simp)]; exact heap_alloc_new _ _
  have r1 : w1.heap[w.heap.size + 1]? = some (.cells #[.string s] 9) := by
    rw [hw1]
    have := heap_alloc_new (w.alloc (tabBox t)) (.cells #[.string s] 9)
    rwa [World.size_alloc] at this
  obtain ⟨c0, c1, c2, c3, c4, c5⟩ := tab_row r0
  have C := Lib.hid (indexC_any 33 #[.pointer (some ⟨w.heap.size + 1, 0, none⟩)] (fun t => decide (t.nm = s)) t.ca t.nc t.cc t.cols w1 Try.egCloC (h.below hb1.out) (cloC_any s (w.heap.size + 1) w1 (str_row r1)))
  obtain ⟨o, ho, hlt⟩ : ∃ o, Hid (findP (fun t : C4 => decide (t.nm = s)) t.cols = o) ∧ Hid (∀ k, o = some k → k < t.nc) := ⟨_, rfl, fun k hk => place_lt h.len k hk⟩
  rw [show columnP t.cols s = o from ho.out]
  rw [ho.out] at C
  have C2 : Hid (∀ W, Calls Try.prog 29 #[.int .i64 (placeE o)] W fun e w' => e = .returned (.tuple #[.int .i64 (at0 o), .bool o.isSome]) ∧ Below W.heap.size W w') := fun W => found_any o t.nc hlt.out W
  generalize placeE o = z at C C2
  generalize at0 o = z0 at C2 ⊢
  generalize o.isSome = q0 at C2 ⊢
  clear hw1 r0 r1 h ho hlt
  go_enter Try.func18, Try.ntmps18
  go_upto_region 1 with fail
  rw [show (w.alloc (tabBox t)).alloc (.cells #[.string s] 9) = w1 from HW1.out.symm]
  clear HW1
  go_wp2_with fail
  refine C.out.mono ?_
  rintro e w2 ⟨rfl, b2⟩
  have HB2 := Lib.hid (below_then hb1.out b2)
  clear C b2 c0 c1 c2 c3 c4 c5
  go_wp2_with fail
  refine (C2.out w2).mono ?_
  rintro e w3 ⟨rfl, b3⟩
  have HB3 := Lib.hid (below_then HB2.out b3)
  clear C2 b3
  go_wp2_with fail
  go_ret2
  exact ⟨rfl, HB3.out⟩
end Go.Proofs.Ytogfnjlhfbpneaa
