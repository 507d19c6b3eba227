/- Several texts laid together: MulPlace, MulIns, MulIns2, MulIns3. -/
import Derived.Test.YtomdbjmbkfdcmaaMbMulM
import Derived.Shelf.Spec.SlicesInsert
import Derived.Lib.AppendZerosOnto
import Derived.Laws.CopyOwn
import Derived.Laws.CopyRow
namespace Go.Proofs.Ytomdbjmbkfdcmaa
set_option maxRecDepth 100000
open Go.RowKit

/-- the first place, or -1 -/
def idxI (l : List P11) (p : P11 → Bool) : Int := if l.findIdx p < l.length then (l.findIdx p : Int) else -1
theorem idx_hit {l : List P11} {p : P11 → Bool} {k : Nat} {x : P11} (h : ∀ y ∈ l.take k, p y = false) (hx : l[k]? = some x) (hp : p x = true) : l.findIdx p = k := by
  obtain ⟨hk, e⟩ := List.getElem?_eq_some_iff.1 hx
  refine (List.findIdx_eq hk).2 ⟨by rw [e]; exact hp, fun j hj => ?_⟩
  have := h l[j] (by rw [List.mem_take_iff_getElem]; exact ⟨j, by omega, rfl⟩)
  simpa using this
theorem idx_none {l : List P11} {p : P11 → Bool} (h : ∀ y ∈ l, p y = false) : l.findIdx p = l.length := List.findIdx_eq_length.2 h

set_option maxHeartbeats 3200000 in
theorem index_any (g : Nat) (cb : Array Value) (p : P11 → Bool) (A : Option Addr) (n c : Nat) (l : List P11) (w : World) (eg : ∀ args w, (callFunc g args).run Try.prog w = .ok (.enter g args) w)
    (h : RdP w A n c l) (hp : TellsP Try.prog g cb p w) :
    Calls Try.prog 61 #[.slice A n c, .func (.func g) #[] cb] w fun e w' => e = .returned (.int .i64 (idxI l p)) ∧ Below w.heap.size w w' := by
  have hl := h.len
  have hle := h.le
  have HRD := Lib.hid h; have HL := Lib.hid hl; have HP := Lib.hid hp
  clear h hl hp
  obtain ⟨z, hz⟩ : ∃ z, Hid (idxI l p = z) := ⟨_, rfl⟩
  rw [hz.out]
  go_enter Try.func61, Try.ntmps61
  go_wp2_with fail
  go_loopw [8] (fun i wr => ∃ k : Nat, k ≤ n ∧ i = .int .i64 k ∧ Hid (∀ y ∈ l.take k, p y = false) ∧ Below w.heap.size w wr) (fun i _ => n - (intOf i).toNat)
  case atStart => exact ⟨0, Nat.zero_le _, rfl, by intro y hy; simp at hy, Below.refl _ _⟩
  case round =>
    obtain ⟨k, hk, rfl, hno, hbel⟩ := hrel
    by_cases hlt : k < n
    · obtain ⟨b, o, x, rfl, hb, hx, hld⟩ := HRD.out.part hlt
      obtain ⟨c0, c1, c2, c3, c4, c5, c6, c7, c8, c9, c10⟩ := hld _ hbel
      obtain ⟨r, hr, C⟩ : ∃ r, Hid (p x = r) ∧ Hid (Calls Try.prog g (#[x.agg] ++ cb) wr fun e W' => e = .returned (.bool r) ∧ Below wr.heap.size wr W') := ⟨_, rfl, HP.out _ hbel x⟩
      have HX := Lib.hid hx
      have HB := Lib.hid hbel
      clear hld hx hbel
      go_wp2_with fail
      refine C.out.mono ?_
      rintro e w2 ⟨rfl, b2⟩
      have B3 := below_then HB.out b2
      cases r with
      | true =>
        have hfin : Hid ((k : Int) = z) := by
          show _ = _
          have h1 := HL.out
          rw [← hz.out, idxI, idx_hit hno.out HX.out hr.out, if_pos (by omega)]
        go_wp2
        go_ret
        exact ⟨ret_int hfin.out, B3⟩
      | false =>
        have hno2 : Hid (∀ y ∈ l.take (k + 1), p y = false) := by
          intro y hy
          rw [List.take_add_one, HX.out] at hy
          rcases List.mem_append.1 hy with hy | hy
          · exact hno.out y hy
          · simp at hy; subst hy; exact hr.out
        go_wp2
        exact ⟨⟨k + 1, by omega, by go_num, hno2, B3⟩, by simp [intOf]; omega⟩
    · have hfin : Hid ((-1 : Int) = z) := by
        show _ = _
        have h1 := HL.out
        have h2 := hno.out
        rw [List.take_of_length_le (by omega)] at h2
        rw [← hz.out, idxI, idx_none h2, if_neg (by omega)]
      go_wp2
      go_ret
      exact ⟨ret_int hfin.out, hbel⟩

theorem Try.egPlace : ∀ args w, (callFunc 85 args).run Try.prog w = .ok (.enter 85 args) w := enters_of Try.func85 (by kernel_rfl) rfl
theorem Try.egWrite : ∀ args w, (callFunc 39 args).run Try.prog w = .ok (.enter 39 args) w := enters_of Try.func39 (by kernel_rfl) rfl
theorem Try.egJoin1 : ∀ args w, (callFunc 74 args).run Try.prog w = .ok (.enter 74 args) w := enters_of Try.func74 (by kernel_rfl) rfl
theorem Try.egJoin2 : ∀ args w, (callFunc 75 args).run Try.prog w = .ok (.enter 75 args) w := enters_of Try.func75 (by kernel_rfl) rfl
theorem Try.egJoin3 : ∀ args w, (callFunc 76 args).run Try.prog w = .ok (.enter 76 args) w := enters_of Try.func76 (by kernel_rfl) rfl

set_option maxHeartbeats 1600000 in
theorem place_any (A : Option Addr) (n c : Nat) (l : List P11) (d : D2) (w : World) (h : RdP w A n c l) :
    Calls Try.prog 42 #[.slice A n c, d.agg] w fun e w' => e = .returned (.int .i64 (place l d : Nat)) ∧ Below w.heap.size w w' := by
  have B1 := below_new (Below.refl w.heap.size w) (dotRow d)
  have hg := heap_alloc_new w (dotRow d)
  have C := Lib.hid (index_any 85 #[.pointer (some ⟨w.heap.size, 0, none⟩)] (fun p => aboveD p.d d) A n c l (w.alloc (dotRow d)) Try.egPlace (h.below B1) (place1_any d w.heap.size _ hg))
  have HB := Lib.hid B1
  have hl := h.len
  have hle := place_le l d
  clear h B1 hg
  have hI : idxI l (fun p => aboveD p.d d) = if place l d < l.length then (place l d : Int) else -1 := rfl
  rw [hI] at C
  clear hI
  rcases Nat.lt_or_ge (place l d) l.length with hp | hp
  · rw [if_pos hp] at C
    obtain ⟨k, hk⟩ : ∃ k, place l d = k := ⟨_, rfl⟩
    rw [hk] at C ⊢
    clear hl hle hp hk
    go_enter Try.func42, Try.ntmps42
    go_wp2_with (go_at_call 61; refine C.out.mono ?_; rintro e w2 ⟨rfl, b2⟩)
    go_ret
    exact ⟨rfl, below_then HB.out b2⟩
  · rw [if_neg (by omega)] at C
    have hk : place l d = n := by omega
    rw [hk]
    clear hl hle hp hk
    go_enter Try.func42, Try.ntmps42
    go_wp2_with (go_at_call 61; refine C.out.mono ?_; rintro e w2 ⟨rfl, b2⟩)
    go_ret
    exact ⟨rfl, below_then HB.out b2⟩
end Go.Proofs.Ytomdbjmbkfdcmaa

namespace Go.Proofs.Ytomdbjmbkfdcmaa
set_option maxRecDepth 100000
open Go.RowKit

theorem run_copyK {P : Program} (w : World) (dT sT ty elem : TypeId) (sz g o dLen dCap : Nat) (a : Addr) (sLen sCap : Nat) (cur : List Value) (t : TypeId) (cs : List Value) (m : Nat)
    (hu : P.underlying dT = some (.slice elem)) (hs : (P.info? elem).map (·.size) = some sz)
    (hg : w.heap[g]? = some (.cells cur.toArray t (0, 0))) (hm : Nat.min sLen dLen = m) (hn : cs.length = m * sz)
    (hsrc : ∀ j v, cs[j]? = some v → w.cell? (a.add j) = some v) (hfit : o + cs.length ≤ cur.length) (h1 : ∀ v ∈ cs, v.oneCell' = true) :
    (Builtin.copy_ #[dT, sT] ty #[.slice (some ⟨g, o, none⟩) dLen dCap, .slice (some a) sLen sCap]).run P w = .ok (goInt m) (w.setRow g (splice cur o cs).toArray) := by
  have hl := run_loadCells_list (P := P) w a cs hsrc
  have hst := run_storeCells_at P g o t cs 0 cur.toArray w hg (by simpa using hfit) h1
  cases hq : P.info? elem with
  | none => simp [hq] at hs
  | some i =>
    have hi : i.size = sz := by simpa [hq] using hs
    have hl2 : (loadCells a (m * sz)).run P w = .ok cs.toArray w := by rw [← hn]; exact hl
    have hf : (Builtin.firstCells sz m (.slice (some a) sLen sCap)).run P w = .ok cs.toArray w := by
      unfold Builtin.firstCells
      by_cases h0 : m = 0
      · subst h0
        have : cs = [] := List.eq_nil_of_length_eq_zero (by rw [hn, Nat.zero_mul])
        subst this
        simp [loadCells, loadCellsFrom]
      · simpa [h0] using hl2
    simp only [Nat.add_zero, List.append_assoc] at hst
    simp [Builtin.copy_, run_underlying hu, Builtin.lenOf, sizeOf, typeInfo, hq, hi, hm, hf, hst, splice, Result.andThen]

theorem run_fromP {g o n c i : Nat} {z : Int} (hz : z = (i : Int)) (h1 : i ≤ n) (hc : i < c) (W : World) : (Instr.slice 24 (.slice (some ⟨g, o, none⟩) n c) (some (.int .i64 z)) none none).run Try.prog W =
    .ok (.slice (some ⟨g, o + i * 11, none⟩) (n - i) (c - i)) W := by
  subst hz
  have hz : (sizeOf (Try.prog.elem 24)).run Try.prog W = .ok 11 W := by kernel_rfl
  have ht : Try.prog.underlying 24 = some (.slice (Try.prog.elem 24)) := by kernel_rfl
  rw [run_slice_l (P := Try.prog) (w := W) (t := 24) (a := some ⟨g, o, none⟩) (len := n) (cap := c) (ht := ht) (kl := .i64) (l := i) (h0 := by omega) (h1 := by omega), hz]
  have hne : ¬ c = i := by omega
  simp [Result.andThen, sliced, Addr.add_lit, hne]
theorem run_uptoP {A : Option Addr} {n c m : Nat} {z : Int} (hz : z = (m : Int)) (h : m ≤ c) (W : World) : (Instr.slice 24 (.slice A n c) none (some (.int .i64 z)) none).run Try.prog W = .ok (.slice A m c) W := by
  subst hz
  have hz : (sizeOf (Try.prog.elem 24)).run Try.prog W = .ok 11 W := by kernel_rfl
  have ht : Try.prog.underlying 24 = some (.slice (Try.prog.elem 24)) := by kernel_rfl
  rw [run_slice_h (P := Try.prog) (w := W) (t := 24) (a := A) (len := n) (cap := c) (ht := ht) (kh := .i64) (h := m) (h0 := by omega) (h2 := by omega), hz]
  have ha : A.map (·.add (0 * 11)) = A := by cases A <;> simp [Addr.add]
  simp only [Result.andThen, sliced, ha, Int.toNat_natCast, Nat.sub_zero, ite_self]

/-- a row with one part more in it -/
theorem splice_ins (A B R : List Value) (X : List Value) (k : Nat) (hk : X.length = k) (hR : k ≤ R.length) :
    splice (splice (A ++ B ++ R) (A.length + k) B) A.length X = A ++ X ++ B ++ R.drop k := by
  subst hk
  simp only [splice]
  have e1 : (A ++ B ++ R).length = A.length + B.length + R.length := by simp [Nat.add_assoc]
  have e2 : ((A ++ B ++ R).take (A.length + X.length)).length = A.length + X.length := by rw [List.length_take, e1]; omega
  have e3 : (A ++ B ++ R).take A.length = A := by rw [List.append_assoc, List.take_left]
  have e4 : ((A ++ B ++ R).take (A.length + X.length) ++ (B ++ (A ++ B ++ R).drop (A.length + X.length + B.length))).take A.length = A := by
    rw [List.take_append_of_le_length (by omega), List.take_take, Nat.min_eq_left (by omega), e3]
  have e5 : ((A ++ B ++ R).take (A.length + X.length) ++ (B ++ (A ++ B ++ R).drop (A.length + X.length + B.length))).drop (A.length + X.length) = B ++ (A ++ B ++ R).drop (A.length + X.length + B.length) := by
    exact List.drop_left' e2
  have e6 : (A ++ B ++ R).drop (A.length + X.length + B.length) = R.drop X.length := by
    rw [show A.length + X.length + B.length = (A ++ B).length + X.length by simp; omega, ← List.drop_drop, List.drop_left]
  rw [e4, e5, e6]
  simp

theorem splice_new (A T : List Value) (X B : List Value) (k : Nat) (hk : X.length = k) (hT : k + B.length ≤ T.length) :
    splice (splice (A ++ T) A.length X) (A.length + k) B = A ++ X ++ B ++ T.drop (k + B.length) := by
  subst hk
  simp only [splice]
  rw [List.take_left, show (A ++ T).drop (A.length + X.length) = T.drop X.length by rw [← List.drop_drop, List.drop_left]]
  have e1 : (A ++ (X ++ T.drop X.length)).take (A.length + X.length) = A ++ X := by
    rw [← List.append_assoc, show A.length + X.length = (A ++ X).length by simp, List.take_left]
  have e2 : (A ++ (X ++ T.drop X.length)).drop (A.length + X.length + B.length) = T.drop (X.length + B.length) := by
    rw [← List.append_assoc, show A.length + X.length + B.length = (A ++ X).length + B.length by simp, ← List.drop_drop, List.drop_left, List.drop_drop]
  rw [e1, e2]
  simp
end Go.Proofs.Ytomdbjmbkfdcmaa

namespace Go.Proofs.Ytomdbjmbkfdcmaa
set_option maxRecDepth 100000
open Go.RowKit

theorem Try.sizePart : (Try.prog.info? 30).map (·.size) = some 11 := by kernel_rfl

theorem part_src {w : World} {g : Nat} {x : P11} (h : w.heap[g]? = some (partCells x)) : ∀ j v, x.cells[j]? = some v → w.cell? ((⟨g, 0, none⟩ : Addr).add j) = some v := by
  intro j v hv
  rw [Addr.add_lit, Nat.zero_add, cell_row h]
  rw [← hv]
  simp [P11.cells]

theorem setRow_of {w : World} {g : Nat} {old : List Value} {t : TypeId} (cs : List Value) (h : w.heap[g]? = some (.cells old.toArray t (0, 0))) : (w.setRow g cs.toArray).heap[g]? = some (.cells cs.toArray t (0, 0)) := setRow_heap w g _ _ t _ h

set_option maxHeartbeats 4000000 in
theorem insert_shift (g n c i gv : Nat) (l : List P11) (cur : List Value) (x : P11) (w : World) (hi : i < n) (hroom : n + 1 ≤ c) (hc : c ≤ maxLen) (hl : l.length = n)
    (hg : w.heap[g]? = some (.cells cur.toArray 30 (0, 0))) (hcur : cur.length = c * 11) (htake : cur.take (n * 11) = l.flatMap P11.cells) (hx : w.heap[gv]? = some (partCells x)) (hne : gv ≠ g) :
    Calls Try.prog 41 #[.slice (some ⟨g, 0, none⟩) n c, .int .i64 i, .slice (some ⟨gv, 0, none⟩) 1 1] w fun e w' =>
      e = .returned (.slice (some ⟨g, 0, none⟩) (n + 1) c) ∧ ∃ Z : List Value, w'.heap[g]? = some (.cells Z.toArray 30 (0, 0)) ∧ Z.length = c * 11 ∧ Z.take ((n + 1) * 11) = (l.take i ++ x :: l.drop i).flatMap P11.cells ∧ Below g w w' ∧ w'.heap.size = w.heap.size := by
  obtain ⟨B, hB⟩ : ∃ B, B = (l.drop i).flatMap P11.cells := ⟨_, rfl⟩
  have hBl : B.length = (n - i) * 11 := by rw [hB, flat_len p11len, List.length_drop, hl]
  have hAl : ((l.take i).flatMap P11.cells).length = i * 11 := by rw [flat_len p11len, List.length_take, hl]; omega
  have hAB : l.flatMap P11.cells = (l.take i).flatMap P11.cells ++ B := by rw [hB, ← List.flatMap_append, List.take_append_drop]
  obtain ⟨R, hR⟩ : ∃ R, cur = (l.take i).flatMap P11.cells ++ B ++ R := ⟨cur.drop (n * 11), by rw [← hAB, ← htake, List.take_append_drop]⟩
  have hRl : 11 ≤ R.length := by
    have := congrArg List.length hR
    rw [hcur, List.length_append, List.length_append, hAl, hBl] at this
    omega
  have hsrcB : ∀ j v, B[j]? = some v → w.cell? ((⟨g, i * 11, none⟩ : Addr).add j) = some v := by
    intro j v hv
    rw [Addr.add_lit, cell_row hg, List.getElem?_toArray, hR, List.append_assoc, List.getElem?_append_right (by rw [hAl]; omega), hAl, Nat.add_sub_cancel_left, List.getElem?_append_left (List.getElem?_eq_some_iff.1 hv).1, hv]
  have hB1 : ∀ v ∈ B, v.oneCell' = true := by
    intro v hv
    rw [hB, List.mem_flatMap] at hv
    obtain ⟨p, _, hp⟩ := hv
    exact p11one p v hp
  obtain ⟨Z1, hZ1⟩ : ∃ Z1, Z1 = splice cur ((i + 1) * 11) B := ⟨_, rfl⟩
  have hZ1l : Z1.length = c * 11 := by rw [hZ1, length_splice _ _ _ (by rw [hBl, hcur]; omega), hcur]
  obtain ⟨Z, hZ⟩ : ∃ Z, Z = splice Z1 (i * 11) x.cells := ⟨_, rfl⟩
  have hZl : Z.length = c * 11 := by rw [hZ, length_splice _ _ _ (by rw [p11len, hZ1l]; omega), hZ1l]
  have hZt : Z.take ((n + 1) * 11) = (l.take i ++ x :: l.drop i).flatMap P11.cells := by
    have e := splice_ins ((l.take i).flatMap P11.cells) B R x.cells 11 (p11len x) hRl
    rw [hAl, show i * 11 + 11 = (i + 1) * 11 by omega, ← hR, ← hZ1, ← hZ] at e
    rw [e, List.take_left' (by simp only [List.length_append]; rw [hAl, hBl, p11len]; omega), hB]
    simp
  have hcp1 : ∀ ty dc sc, (Builtin.copy_ #[24, 24] ty #[.slice (some ⟨g, (i + 1) * 11, none⟩) (n + 1 - (i + 1)) dc, .slice (some ⟨g, i * 11, none⟩) (n + 1 - i) sc]).run Try.prog w.drew = .ok (goInt (n - i : Nat)) (w.drew.setRow g Z1.toArray) := fun ty dc sc => by
    rw [hZ1]
    exact run_copyK w.drew _ _ ty 30 11 g ((i + 1) * 11) _ dc ⟨g, i * 11, none⟩ _ sc cur 30 B (n - i) Try.underlying24 Try.sizePart hg (by simp only [Nat.min_def]; split <;> omega) hBl hsrcB (by rw [hBl, hcur]; omega) hB1
  obtain ⟨W1, hW1⟩ : ∃ W1, W1 = w.drew.setRow g Z1.toArray := ⟨_, rfl⟩
  have hg1 : W1.heap[g]? = some (.cells Z1.toArray 30 (0, 0)) := by rw [hW1]; exact setRow_of Z1 (w := w.drew) hg
  have hx1 : W1.heap[gv]? = some (partCells x) := by rw [hW1, setRow_other w.drew g gv _ hne]; exact hx
  have hcp2 : ∀ ty dc, (Builtin.copy_ #[24, 24] ty #[.slice (some ⟨g, i * 11, none⟩) (n + 1 - i) dc, .slice (some ⟨gv, 0, none⟩) 1 1]).run Try.prog W1 = .ok (goInt (1 : Nat)) (W1.setRow g Z.toArray) := fun ty dc => by
    rw [hZ]
    exact run_copyK W1 _ _ ty 30 11 g (i * 11) _ dc ⟨gv, 0, none⟩ 1 1 Z1 30 x.cells 1 Try.underlying24 Try.sizePart hg1 (by simp only [Nat.min_def]; split <;> omega) (p11len x) (part_src hx1) (by rw [p11len, hZ1l]; omega) (p11one x)
  have hg2 : (W1.setRow g Z.toArray).heap[g]? = some (.cells Z.toArray 30 (0, 0)) := setRow_of Z hg1
  have hbel : Below g w (W1.setRow g Z.toArray) := by rw [hW1]; exact below_setRow (below_setRow ((Below.refl g w).drew) (Nat.le_refl _) _) (Nat.le_refl _) _
  have hsz : (W1.setRow g Z.toArray).heap.size = w.heap.size := by rw [hW1]; simp [World.setRow]
  have hov : ∀ lb cb, (callFunc 83 #[.slice (some ⟨gv, 0, none⟩) 1 1, .slice (some ⟨g, (i + 1) * 11, none⟩) lb cb]).run Try.prog w = .ok (.value (.bool false)) w := fun lb cb => by
    have hsa : w.shape? gv = some (30, 11) := by simp [World.shape?, hx]
    have hsb : w.shape? g = some (30, c * 11) := by simp [World.shape?, hg, hcur]
    rw [run_callFunc_extern Try.func83 (by kernel_rfl) (by kernel_rfl) (by kernel_rfl) (e := Extern.SlicesOverlaps.overlaps #[24, 24] #[4]) (by kernel_rfl),
      Lib.run_overlaps_apart w 24 4 30 Try.underlying24 11 Try.sizeOf30 ⟨gv, 0, none⟩ ⟨g, (i + 1) * 11, none⟩ 1 1 lb cb hne _ _ _ _ hsa hsb (by omega) (frozen_row hx 0) (frozen_row hx 11)]
    rfl
  have s1 := run_fromP (g := g) (o := 0) (n := n) (c := c) (i := i) (z := (i : Int)) rfl (by omega) (by omega)
  have s2 := run_uptoP (A := some ⟨g, 0, none⟩) (n := n) (c := c) (m := n + 1) (z := (n : Int) + 1) (by omega) (by omega)
  have s3 := run_fromP (g := g) (o := 0) (n := n + 1) (c := c) (i := i + 1) (z := (i : Int) + 1) (by omega) (by omega) (by omega)
  have s4 := run_fromP (g := g) (o := 0) (n := n + 1) (c := c) (i := i) (z := (i : Int)) rfl (by omega) (by omega)
  rw [Nat.zero_add] at s1 s3 s4
  have hin : ¬ ((i : Int) = (n : Int)) := by omega
  have hin2 : ((i : Int) == (n : Int)) = false := by rw [beq_eq_false_iff_ne]; exact hin
  have hrm : ¬ ((c : Int) < (n : Int) + 1) := by omega
  have hcm : c ≤ 9223372036854775807 := by simp only [maxLen] at hc; omega
  have w1 : IntKind.i64.wrap ((n : Int) + 1) = (n : Int) + 1 := wrap_is (by omega)
  have w2 : IntKind.i64.wrap ((i : Int) + 1) = (i : Int) + 1 := wrap_is (by omega)
  have mixed : Try.prog.follows .mixedOrders = true := layK.mixed
  have HZ := Lib.hid (show ∃ Z : List Value, (W1.setRow g Z.toArray).heap[g]? = some (.cells Z.toArray 30 (0, 0)) ∧ Z.length = c * 11 ∧ Z.take ((n + 1) * 11) = (l.take i ++ x :: l.drop i).flatMap P11.cells ∧ Below g w (W1.setRow g Z.toArray) ∧ (W1.setRow g Z.toArray).heap.size = w.heap.size from ⟨Z, hg2, hZl, hZt, hbel, hsz⟩)
  rw [← hW1] at hcp1
  clear hB hBl hAl hAB hR hRl hsrcB hB1 hZ1 hZ1l hZ hg1 hx1 hg hcur htake hx hl
  have HF := Lib.hid (show ∃ Z' : List Value, (W1.setRow g Z.toArray).heap[g]? = some (.cells Z'.toArray 30 (0, 0)) ∧ Z'.length = c * 11 ∧ Z'.take ((n + 1) * 11) = (l.take i ++ x :: l.drop i).flatMap P11.cells ∧ Below g w (W1.setRow g Z.toArray) ∧ (W1.setRow g Z.toArray).heap.size = w.heap.size from ⟨Z, hg2, hZl, hZt, hbel, hsz⟩)
  clear HZ hg2 hZl hZt hbel hsz hW1
  go_enter Try.func41, Try.ntmps41
  go_wp2_with (simp only [hov])
  go_region_law_o (refine step_copy_runI rfl _ _ 24 24 rfl (.slice (some ⟨g, (i + 1) * 11, none⟩) (n + 1 - (i + 1)) (c - (i + 1))) (.slice (some ⟨g, i * 11, none⟩) (n + 1 - i) (c - i)) (by simp [Act.eval, Act.put]) (by simp [Act.eval, Act.put]) (hcp1 _ _ _) ?_)
  go_wp2_with (at_builtin; refine wpList_copy_runI _ rfl _ _ 24 24 rfl _ _ rfl rfl (hcp2 _ _) ?_)
  go_ret
  exact ⟨rfl, HF.out⟩
end Go.Proofs.Ytomdbjmbkfdcmaa

namespace Go.Proofs.Ytomdbjmbkfdcmaa
set_option maxRecDepth 100000
open Go.RowKit

set_option maxHeartbeats 4000000 in
theorem insert_grow (g n c i gv : Nat) (l : List P11) (cur : List Value) (x : P11) (w : World) (hi : i < n) (hroom : c < n + 1) (hnc : n ≤ c) (hn : n ≤ 4294967296) (hl : l.length = n)
    (hg : w.heap[g]? = some (.cells cur.toArray 30 (0, 0))) (_hcur : cur.length = c * 11) (htake : cur.take (n * 11) = l.flatMap P11.cells) (hx : w.heap[gv]? = some (partCells x)) :
    Calls Try.prog 41 #[.slice (some ⟨g, 0, none⟩) n c, .int .i64 i, .slice (some ⟨gv, 0, none⟩) 1 1] w fun e w' =>
      ∃ G, e = .returned (.slice (some ⟨w.heap.size, 0, none⟩) (n + 1) G) ∧ n + 1 ≤ G ∧ G ≤ maxLen ∧ ∃ Z : List Value, w'.heap[w.heap.size]? = some (.cells Z.toArray 30 (0, 0)) ∧ Z.length = G * 11 ∧ Z.take ((n + 1) * 11) = (l.take i ++ x :: l.drop i).flatMap P11.cells ∧ Below w.heap.size w w' ∧ w.heap.size < w'.heap.size := by
  obtain ⟨B, hB⟩ : ∃ B, B = (l.drop i).flatMap P11.cells := ⟨_, rfl⟩
  have hBl : B.length = (n - i) * 11 := by rw [hB, flat_len p11len, List.length_drop, hl]
  obtain ⟨A, hA⟩ : ∃ A, A = (l.take i).flatMap P11.cells := ⟨_, rfl⟩
  have hAl : A.length = i * 11 := by rw [hA, flat_len p11len, List.length_take, hl]; omega
  have hAB : l.flatMap P11.cells = A ++ B := by rw [hA, hB, ← List.flatMap_append, List.take_append_drop]
  obtain ⟨R, hR⟩ : ∃ R, cur = A ++ B ++ R := ⟨cur.drop (n * 11), by rw [← hAB, ← htake, List.take_append_drop]⟩
  have hsrcA : ∀ j v, A[j]? = some v → w.cell? ((⟨g, 0, none⟩ : Addr).add j) = some v := by
    intro j v hv
    rw [Addr.add_lit, cell_row hg, List.getElem?_toArray, hR, List.append_assoc, Nat.zero_add, List.getElem?_append_left (List.getElem?_eq_some_iff.1 hv).1, hv]
  have hsrcB : ∀ j v, B[j]? = some v → w.cell? ((⟨g, i * 11, none⟩ : Addr).add j) = some v := by
    intro j v hv
    rw [Addr.add_lit, cell_row hg, List.getElem?_toArray, hR, List.append_assoc, List.getElem?_append_right (by rw [hAl]; omega), hAl, Nat.add_sub_cancel_left, List.getElem?_append_left (List.getElem?_eq_some_iff.1 hv).1, hv]
  have hB1 : ∀ v ∈ B, v.oneCell' = true := by
    intro v hv
    rw [hB, List.mem_flatMap] at hv
    obtain ⟨p, _, hp⟩ := hv
    exact p11one p v hp
  have hgw : g < w.heap.size := (Array.getElem?_eq_some_iff.1 hg).1
  obtain ⟨i0, hi0, hz0, hzs, hzb⟩ := info_parts Try.infoPart
  obtain ⟨ZZ, hZZ⟩ : ∃ ZZ : Value, ZZ = .agg #[.int .i64 0, .int .i64 0, .string ⟨#[]⟩, .int .i64 0, .int .i64 0, .int .i64 0, .int .i64 0, .int .i64 0, .int .i64 0, .int .i64 0, .bool false] := ⟨_, rfl⟩
  have hZs : ZZ.cells.size = 11 := by rw [hZZ]; rfl
  rw [← hZZ] at hz0
  have hold : (Builtin.firstCells i0.size i (.slice (some ⟨g, 0, none⟩) i c)).run Try.prog w.drew = .ok A.toArray w.drew := by
    rw [hzs]
    exact run_firstCells_some w.drew 11 i ⟨g, 0, none⟩ i c A (by rw [hAl]) hsrcA
  obtain ⟨G, hG⟩ : ∃ G, G = grownCap w (n + 1) c 30 := ⟨_, rfl⟩
  obtain ⟨T, hT⟩ : ∃ T : List Value, T = (Builtin.zeroCells ZZ.cells (n + 1 - i) ++ Builtin.zeroCells ZZ.cells (G - (n + 1))).toList := ⟨_, rfl⟩
  have hGn : n + 1 ≤ G := by rw [hG]; exact grownCap_ge w _ _ _
  have hGm : G ≤ maxLen := by rw [hG]; exact grownCap_le_maxLen w (n + 1) c 30 (by simp only [maxLen]; omega)
  have hzl : ∀ q, (Builtin.zeroCells ZZ.cells q).size = q * 11 := fun q => by simp [Builtin.zeroCells, hZs]
  have hTl : T.length = (G - i) * 11 := by rw [hT, Array.length_toList, Array.size_append, hzl, hzl]; omega
  have hrz : ∀ ty, (Builtin.append_ #[24, 3] ty #[.slice (some ⟨g, 0, none⟩) i c, .int .i64 ((n : Int) + 1 - (i : Int))]).run Try.prog w =
      .ok (.slice (some ⟨w.heap.size, 0, none⟩) (n + 1) G) (w.drew.alloc (.cells (A ++ T).toArray 30)) := fun ty => by
    have hik : i + (n + 1 - i) = n + 1 := by omega
    have h := Lib.run_append_grow_zeros w 24 3 ty 30 i0 _ .i64 .i64 Try.underlying24 Try.underlying3 hi0 hz0 (some ⟨g, 0, none⟩) i c A hold (n + 1 - i) (by omega) (by omega) (by omega) (by omega) (by rw [hzb]; omega) (by rw [hzb, hik]; exact growslice_fits hroom (by omega))
    rw [hik, ← hG] at h
    rw [show (n : Int) + 1 - (i : Int) = ((n + 1 - i : Nat) : Int) by omega]
    rw [h, hT]
    congr 3
    simp
  obtain ⟨W1, hW1⟩ : ∃ W1, W1 = w.drew.alloc (.cells (A ++ T).toArray 30) := ⟨_, rfl⟩
  have hW1b : W1 = (w.alloc (.cells (A ++ T).toArray 30)).drew := hW1
  have hg1 : W1.heap[w.heap.size]? = some (.cells (A ++ T).toArray 30 (0, 0)) := by rw [hW1]; exact heap_alloc_new w.drew _
  have hx1 : W1.heap[gv]? = some (partCells x) := by
    have := (Array.getElem?_eq_some_iff.1 hx).1
    rw [hW1, Below.heap_alloc w.drew _ gv this]; exact hx
  have hgv : gv ≠ w.heap.size := by have := (Array.getElem?_eq_some_iff.1 hx).1; omega
  obtain ⟨Z1, hZ1⟩ : ∃ Z1, Z1 = splice (A ++ T) (i * 11) x.cells := ⟨_, rfl⟩
  have hZ1l : Z1.length = G * 11 := by rw [hZ1, length_splice _ _ _ (by rw [p11len, List.length_append, hAl, hTl]; omega), List.length_append, hAl, hTl]; omega
  have hcpA : ∀ ty dc, (Builtin.copy_ #[24, 24] ty #[.slice (some ⟨w.heap.size, i * 11, none⟩) (n + 1 - i) dc, .slice (some ⟨gv, 0, none⟩) 1 1]).run Try.prog W1 = .ok (goInt (1 : Nat)) (W1.setRow w.heap.size Z1.toArray) := fun ty dc => by
    rw [hZ1]
    exact run_copyK W1 _ _ ty 30 11 w.heap.size (i * 11) _ dc ⟨gv, 0, none⟩ 1 1 (A ++ T) 30 x.cells 1 Try.underlying24 Try.sizePart hg1 (by simp only [Nat.min_def]; split <;> omega) (p11len x) (part_src hx1) (by rw [p11len, List.length_append, hAl, hTl]; omega) (p11one x)
  obtain ⟨W2, hW2⟩ : ∃ W2, W2 = W1.setRow w.heap.size Z1.toArray := ⟨_, rfl⟩
  have hg2 : W2.heap[w.heap.size]? = some (.cells Z1.toArray 30 (0, 0)) := by rw [hW2]; exact setRow_of Z1 hg1
  have hB2 : ∀ j v, B[j]? = some v → W2.drew.cell? ((⟨g, i * 11, none⟩ : Addr).add j) = some v := by
    intro j v hv
    rw [← hsrcB j v hv, hW2, hW1]
    have h1 : ((w.drew.alloc (.cells (A ++ T).toArray 30)).setRow w.heap.size Z1.toArray).heap[g]? = w.heap[g]? := by
      rw [setRow_other _ w.heap.size g _ (by omega), Below.heap_alloc w.drew _ g hgw]; rfl
    rw [Addr.add_lit]
    show World.cell? _ _ = World.cell? _ _
    simp only [World.cell?]
    rw [show (World.drew ((w.drew.alloc (.cells (A ++ T).toArray 30)).setRow w.heap.size Z1.toArray)).heap[g]? = w.heap[g]? from h1]
  obtain ⟨Z, hZ⟩ : ∃ Z, Z = splice Z1 ((i + 1) * 11) B := ⟨_, rfl⟩
  have hZl : Z.length = G * 11 := by rw [hZ, length_splice _ _ _ (by rw [hBl, hZ1l]; omega), hZ1l]
  have hZt : Z.take ((n + 1) * 11) = (l.take i ++ x :: l.drop i).flatMap P11.cells := by
    have e := splice_new A T x.cells B 11 (p11len x) (by rw [hBl, hTl]; omega)
    rw [hAl, show i * 11 + 11 = (i + 1) * 11 by omega, ← hZ1, ← hZ] at e
    rw [e, List.take_left' (by simp only [List.length_append]; rw [hAl, hBl, p11len]; omega), hA, hB]
    simp
  have hcpB : ∀ ty dc sc, (Builtin.copy_ #[24, 24] ty #[.slice (some ⟨w.heap.size, (i + 1) * 11, none⟩) (n + 1 - (i + 1)) dc, .slice (some ⟨g, i * 11, none⟩) (n - i) sc]).run Try.prog W2.drew = .ok (goInt (n - i : Nat)) (W2.drew.setRow w.heap.size Z.toArray) := fun ty dc sc => by
    rw [hZ]
    exact run_copyK W2.drew _ _ ty 30 11 w.heap.size ((i + 1) * 11) _ dc ⟨g, i * 11, none⟩ _ sc Z1 30 B (n - i) Try.underlying24 Try.sizePart hg2 (by simp only [Nat.min_def]; split <;> omega) hBl hB2 (by rw [hBl, hZ1l]; omega) hB1
  obtain ⟨W3, hW3⟩ : ∃ W3, W3 = W2.drew.setRow w.heap.size Z.toArray := ⟨_, rfl⟩
  have hg3 : W3.heap[w.heap.size]? = some (.cells Z.toArray 30 (0, 0)) := by rw [hW3]; exact setRow_of Z (w := W2.drew) hg2
  have hbel : Below w.heap.size w W3 := by
    rw [hW3, hW2, hW1]
    exact below_setRow (Below.drew (below_setRow (Below.alloc ((Below.refl w.heap.size w).drew) (Nat.le_refl _) _) (Nat.le_refl _) _)) (Nat.le_refl _) _
  have hsz : w.heap.size < W3.heap.size := (Array.getElem?_eq_some_iff.1 hg3).1
  have s1 := run_fromP (g := g) (o := 0) (n := n) (c := c) (i := i) (z := (i : Int)) rfl (by omega) (by omega)
  have s2 := run_uptoP (A := some ⟨g, 0, none⟩) (n := n) (c := c) (m := i) (z := (i : Int)) rfl (by omega)
  have s3 := run_fromP (g := w.heap.size) (o := 0) (n := n + 1) (c := G) (i := i) (z := (i : Int)) rfl (by omega) (by omega)
  have s4 := run_fromP (g := w.heap.size) (o := 0) (n := n + 1) (c := G) (i := i + 1) (z := (i : Int) + 1) (by omega) (by omega) (by omega)
  rw [Nat.zero_add] at s1 s3 s4
  have hin : ¬ ((i : Int) = (n : Int)) := by omega
  have hin2 : ((i : Int) == (n : Int)) = false := by rw [beq_eq_false_iff_ne]; exact hin
  have hrm : (c : Int) < (n : Int) + 1 := by omega
  have w1 : IntKind.i64.wrap ((n : Int) + 1) = (n : Int) + 1 := wrap_is (by omega)
  have w2 : IntKind.i64.wrap ((i : Int) + 1) = (i : Int) + 1 := wrap_is (by omega)
  have w3 : IntKind.i64.wrap ((n : Int) + 1 - (i : Int)) = (n : Int) + 1 - (i : Int) := wrap_is (by omega)
  have mixed : Try.prog.follows .mixedOrders = true := layK.mixed
  have HF := Lib.hid (show n + 1 ≤ G ∧ G ≤ maxLen ∧ ∃ Z : List Value, W3.heap[w.heap.size]? = some (.cells Z.toArray 30 (0, 0)) ∧ Z.length = G * 11 ∧ Z.take ((n + 1) * 11) = (l.take i ++ x :: l.drop i).flatMap P11.cells ∧ Below w.heap.size w W3 ∧ w.heap.size < W3.heap.size from ⟨hGn, hGm, Z, hg3, hZl, hZt, hbel, hsz⟩)
  rw [← hW1] at hrz
  rw [← hW2] at hcpA
  rw [← hW3] at hcpB
  clear hB hBl hA hAl hAB hR hsrcA hsrcB hB1 hgw hi0 hz0 hzs hzb hZZ hZs hold hG hT hGn hGm hzl hTl hW1 hW1b hg1 hx1 hgv hZ1 hZ1l hW2 hg2 hB2 hZ hZl hZt hW3 hg3 hbel hsz hg _hcur htake hx hl
  go_enter Try.func41, Try.ntmps41
  go_wp2_with (first
    | (at_builtin; refine Lib.wpList_append_run _ rfl _ _ _ _ rfl _ _ rfl rfl _ _ (hrz _) ?_)
    | (at_builtin; refine wpList_copy_runI _ rfl _ _ 24 24 rfl _ _ rfl rfl (hcpA _ _) ?_))
  go_region_law_o (refine step_copy_runI rfl _ _ 24 24 rfl (.slice (some ⟨w.heap.size, (i + 1) * 11, none⟩) (n + 1 - (i + 1)) (G - (i + 1))) (.slice (some ⟨g, i * 11, none⟩) (n - i) (c - i)) (by simp [Act.eval, Act.put]) (by simp [Act.eval, Act.put]) (hcpB _ _ _) ?_)
  go_wp2
  go_ret
  exact ⟨_, rfl, HF.out⟩

theorem run_fromEnd {A : Option Addr} {n c : Nat} (_h : n ≤ c) : ∃ B, ∀ W, (Instr.slice 24 (.slice A n c) (some (.int .i64 (n : Int))) none none).run Try.prog W = .ok (.slice B 0 (c - n)) W := by
  refine ⟨if c = n then A else A.map (·.add (n * 11)), fun W => ?_⟩
  have hz : (sizeOf (Try.prog.elem 24)).run Try.prog W = .ok 11 W := by kernel_rfl
  have ht : Try.prog.underlying 24 = some (.slice (Try.prog.elem 24)) := by kernel_rfl
  rw [run_slice_l (P := Try.prog) (w := W) (t := 24) (a := A) (len := n) (cap := c) (ht := ht) (kl := .i64) (l := n) (h0 := by omega) (h1 := by omega), hz]
  simp [Result.andThen, sliced]

set_option maxHeartbeats 4000000 in
theorem insert_end (base n c gv : Nat) (A : Option Addr) (l : List P11) (x : P11) (w : World) (hnc : n ≤ c) (hn : n ≤ 4294967295)
    (hown : w.ownsRow base 30 11 (.slice A n c) n (l.flatMap P11.cells)) (hx : w.heap[gv]? = some (partCells x)) (hbase : base ≤ w.heap.size) :
    Calls Try.prog 41 #[.slice A n c, .int .i64 n, .slice (some ⟨gv, 0, none⟩) 1 1] w fun e w' =>
      ∃ v, e = .returned v ∧ w'.ownsRow base 30 11 v (n + 1) ((l ++ [x]).flatMap P11.cells) ∧ Below base w w' ∧ base ≤ w'.heap.size := by
  obtain ⟨B, s1⟩ := run_fromEnd (A := A) hnc
  obtain ⟨i0, hi0, hz0, hz1, hz2⟩ := info_parts Try.infoPart
  have hsrc := Lib.hid (part_src hx)
  have HO := Lib.hid hown
  clear hx hown
  go_enter Try.func41, Try.ntmps41
  go_wp2_with (at_builtin; refine wpList_append_own _ rfl _ _ 24 rfl base 30 i0 _ 11 96 Try.underlying24 hi0 hz0 hz1 hz2 rfl (by omega) (.slice A n c) n (l.flatMap P11.cells) rfl HO.out ⟨gv, 0, none⟩ 1 1 x.cells rfl (p11len x) hsrc.out (p11one x) (by simp only [maxLen]; omega) (by omega) hbase ?_; intro v' w' hown' hgrow _)
  go_ret
  refine ⟨_, rfl, by rw [List.flatMap_append]; simpa using hown', (Below.refl base w).grown hgrow (by omega) (fun k hk => (HO.out.lt k hk).1), by have := hgrow.size; omega⟩

/-- one part more, in its place, in a row of the call's own -/
theorem insert_any (base n c i gv : Nat) (A : Option Addr) (l : List P11) (x : P11) (w : World) (hi : i ≤ n) (hn : n ≤ 4294967295)
    (hown : w.ownsRow base 30 11 (.slice A n c) n (l.flatMap P11.cells)) (hx : w.heap[gv]? = some (partCells x)) (hbase : base ≤ w.heap.size) (hne : ∀ k, (Value.slice A n c).ownBlock = some k → gv ≠ k) :
    Calls Try.prog 41 #[.slice A n c, .int .i64 i, .slice (some ⟨gv, 0, none⟩) 1 1] w fun e w' =>
      ∃ v, e = .returned v ∧ w'.ownsRow base 30 11 v (n + 1) ((l.take i ++ x :: l.drop i).flatMap P11.cells) ∧ Below base w w' ∧ base ≤ w'.heap.size := by
  have hl : l.length = n := by
    have := hown.1
    rw [flat_len p11len] at this
    omega
  have hlen : ((l.take i ++ x :: l.drop i).flatMap P11.cells).length = (n + 1) * 11 := by
    rw [flat_len p11len, List.length_append, List.length_cons, List.length_take, List.length_drop]; omega
  have hnc : n ≤ c := by
    rcases hown.2 with ⟨hv, h0⟩ | ⟨g, cap, cur, hv, _, _, h2, _⟩
    · omega
    · injection hv with _ _ h3; omega
  rcases Nat.lt_or_ge i n with h | h
  · rcases hown.2 with ⟨hv, h0⟩ | ⟨g, cap, cur, hv, hbg, hg, h2, h3, h4, h5⟩
    · omega
    · injection hv with e1 _ e3
      subst e1 e3
      have hgl : w.heap[g]? = some (.cells cur.toList.toArray 30 (0, 0)) := by rw [Array.toArray_toList]; exact hg
      rcases Nat.lt_or_ge c (n + 1) with hr | hr
      · refine (insert_grow g n c i gv l cur.toList x w h hr hnc (by omega) hl hgl (by simpa using h4) h5 hx).mono ?_
        rintro e w' ⟨G, rfl, k1, k2, Z, k3, k4, k5, k6, k7⟩
        exact ⟨_, rfl, ⟨hlen, .inr ⟨_, G, Z.toArray, rfl, hbase, k3, k1, k2, by simpa using k4, by simpa using k5⟩⟩, k6.mono hbase, by omega⟩
      · refine (insert_shift g n c i gv l cur.toList x w h hr h3 hl hgl (by simpa using h4) h5 hx (hne g rfl)).mono ?_
        rintro e w' ⟨rfl, Z, k3, k4, k5, k6, k7⟩
        exact ⟨_, rfl, ⟨hlen, .inr ⟨g, c, Z.toArray, rfl, hbg, k3, hr, h3, by simpa using k4, by simpa using k5⟩⟩, k6.mono hbg, by omega⟩
  · obtain rfl : i = n := by omega
    rw [List.take_of_length_le (by omega), List.drop_of_length_le (by omega)]
    exact insert_end base i c gv A l x w hnc hn hown hx hbase
end Go.Proofs.Ytomdbjmbkfdcmaa

