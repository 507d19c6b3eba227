/- Several texts laid together: KMem, KLay, KIns, KRot. -/
import Derived.Test.YtomdbjmbkfdcmaaRows
import Derived.Test.YtomdbjmbkfdcmaaMbBase
import Derived.Test.YtomdbjmbkfdcmaaMbSortS
import Derived.Shelf.SlSortCmp.KitK
import Derived.Shelf.SlSortCmp.QuietGrown
import Derived.Shelf.RegionOpenPlain
import Derived.BigRegion
import Derived.IntWalk
import Derived.Shelf.Abstract
namespace Go.Proofs.Ytomdbjmbkfdcmaa
set_option maxRecDepth 100000
open Go.RowKit Go.Sort
variable {α : Type}

/-- draws, and new blocks behind -/
def Grown (w w' : World) : Prop := ∃ n os, w' = grow (w.drewN n) os
theorem Grown.refl (w : World) : Grown w w := ⟨0, #[], by rw [grow_empty]; rfl⟩
theorem Grown.drewN {a w : World} (h : Grown a w) (k : Nat) : Grown a (w.drewN k) := by
  obtain ⟨n, os, rfl⟩ := h
  exact ⟨n + k, os, by show grow ((a.drewN n).drewN k) os = _; rw [World.drewN_drewN]⟩
theorem Grown.drew {a w : World} (h : Grown a w) : Grown a w.drew := h.drewN 1
theorem Grown.alloc {a w : World} (h : Grown a w) (o : Obj) : Grown a (w.alloc o) := by
  obtain ⟨n, os, rfl⟩ := h
  exact ⟨n, os ++ #[o], by rw [alloc_eq_grow, grow_grow]⟩
theorem Grown.grow {a w : World} (h : Grown a w) (os' : Array Obj) : Grown a (Sort.grow w os') := by
  obtain ⟨n, os, rfl⟩ := h
  exact ⟨n, os ++ os', by rw [grow_grow]⟩
theorem Grown.trans {a b c : World} (h : Grown a b) (k : Grown b c) : Grown a c := by
  obtain ⟨n, os, rfl⟩ := k
  exact (h.drewN n).grow os
theorem Grown.below {a w : World} (h : Grown a w) : Below a.heap.size a w := by
  obtain ⟨n, os, rfl⟩ := h
  refine ⟨rfl, rfl, rfl, ?_, fun k hk => ?_⟩
  · rw [size_grow]; exact Nat.le_add_right _ _
  · exact heap_grow_old _ _ hk
/-- as the walk of a drawn region asks for it -/
theorem Grown.of {P : Program} {f : FuncId} {args : Array Value} {w : World} {v : Value} {n : Nat} {os : Array Obj} (h : Calls P f args (Sort.grow (w.drewN n) os) fun e w' => e = .returned v ∧ Grown (Sort.grow (w.drewN n) os) w') :
    Calls P f args (Sort.grow (w.drewN n) os) fun e w' => e = .returned v ∧ ∃ q os', w' = Sort.grow ((Sort.grow (w.drewN n) os).drewN q) os' := h

/-- W is w0, but that the slice in block blk holds d, an element's k cells by enc -/
structure SwK (enc : α → List Value) (k : Nat) (w0 : World) (blk off : Nat) (d : List α) (W : World) : Prop where
  os : W.os = w0.os
  tape : W.tape = w0.tape
  output : W.output = w0.output
  size : w0.heap.size ≤ W.heap.size
  lt : blk < W.heap.size
  block : ∀ i, i < w0.heap.size → i ≠ blk → W.heap[i]? = w0.heap[i]?
  cell : ∀ j x, d[j]? = some x → ∀ i v, (enc x)[i]? = some v → W.cell? ⟨blk, off + j * k + i, none⟩ = some v
  frozen : ∀ j, j < d.length * k → W.frozen? ⟨blk, off + j, none⟩ = false

/-- what is known of the elements' cells -/
structure EncK (enc : α → List Value) (k : Nat) : Prop where
  len : ∀ x, (enc x).length = k
  one : ∀ x, ∀ v ∈ enc x, v.oneCell' = true

theorem setCells_os (b : Nat) : ∀ (vs : List Value) (o : Nat) (w : World), (w.setCells b o vs).os = w.os
  | [], _, _ => rfl
  | v :: r, o, w => by rw [World.setCells, setCells_os b r]; rfl
theorem setCells_tape (b : Nat) : ∀ (vs : List Value) (o : Nat) (w : World), (w.setCells b o vs).tape = w.tape
  | [], _, _ => rfl
  | v :: r, o, w => by rw [World.setCells, setCells_tape b r]; rfl
theorem setCells_output (b : Nat) : ∀ (vs : List Value) (o : Nat) (w : World), (w.setCells b o vs).output = w.output
  | [], _, _ => rfl
  | v :: r, o, w => by rw [World.setCells, setCells_output b r]; rfl
theorem setCells_block (b : Nat) : ∀ (vs : List Value) (o : Nat) (w : World) (j : Nat), j ≠ b → (w.setCells b o vs).heap[j]? = w.heap[j]?
  | [], _, _, _, _ => rfl
  | v :: r, o, w, j, h => by
    rw [World.setCells, setCells_block b r _ _ j h]
    show (w.heap.modify b _)[j]? = _
    rw [Array.getElem?_modify, if_neg (fun e => h e.symm)]

theorem blk_lt {i j k n : Nat} (h : j < n) (hi : i < k) : j * k + i < n * k := by
  have := Nat.mul_le_mul_right k (show j + 1 ≤ n from h)
  rw [Nat.add_mul, Nat.one_mul] at this
  omega
theorem blk_apart {i j k a b : Nat} (h : a ≠ b) (hi : i < k) (hj : j < k) : a * k + i ≠ b * k + j := by
  intro e
  rcases Nat.lt_or_gt_of_ne h with h | h
  · have := Nat.mul_le_mul_right k (show a + 1 ≤ b from h)
    rw [Nat.add_mul, Nat.one_mul] at this
    omega
  · have := Nat.mul_le_mul_right k (show b + 1 ≤ a from h)
    rw [Nat.add_mul, Nat.one_mul] at this
    omega

section
variable {enc : α → List Value} {k : Nat} {w0 : World} {blk off : Nat} {d : List α} {W W' : World}

theorem SwK.below (h : SwK enc k w0 blk off d W) (hb : Below W.heap.size W W') : SwK enc k w0 blk off d W' where
  os := hb.os.trans h.os
  tape := hb.tape.trans h.tape
  output := hb.output.trans h.output
  size := Nat.le_trans h.size hb.size
  lt := Nat.lt_of_lt_of_le h.lt hb.size
  block := fun k hk hne => (hb.block k (Nat.lt_of_lt_of_le hk h.size)).trans (h.block k hk hne)
  cell := fun j x hx i v hv => (hb.cell (p := ⟨blk, off + j * k + i, none⟩) h.lt).trans (h.cell j x hx i v hv)
  frozen := fun j hj => by
    have := h.frozen j hj
    simp only [World.frozen?, hb.block blk h.lt] at this ⊢
    exact this
theorem SwK.grown (h : SwK enc k w0 blk off d W) (n : Nat) (os : Array Obj) : SwK enc k w0 blk off d (grow (W.drewN n) os) := h.below (Grown.below ⟨n, os, rfl⟩)
theorem SwK.drewN (h : SwK enc k w0 blk off d W) (n : Nat) : SwK enc k w0 blk off d (W.drewN n) := h.below (Quiet.below _ ⟨n, rfl⟩)
theorem SwK.drew (h : SwK enc k w0 blk off d W) : SwK enc k w0 blk off d W.drew := h.drewN 1

theorem SwK.load (h : SwK enc k w0 blk off d W) (E : EncK enc k) (P : Program) {j : Nat} {x : α} (hx : d[j]? = some x) :
    Sem.run P (loadCellsFrom ⟨blk, off + j * k, none⟩ 0 k #[]) W = .ok (enc x).toArray W :=
  run_loadCellsFrom_list P _ _ _ k (E.len _) fun i v hv => by
    rw [Addr.add_lit]; exact h.cell j x hx i v hv

theorem SwK.store (h : SwK enc k w0 blk off d W) (E : EncK enc k) (P : Program) {j : Nat} (hj : j < d.length) (y : α) :
    Sem.run P (storeCells ⟨blk, off + j * k, none⟩ (enc y) 0) W = .ok () (W.setCells blk (off + j * k) (enc y)) := by
  have := run_storeCells_cells (P := P) blk (off + j * k) (enc y) 0 W (fun c hc => by
      rw [E.len] at hc
      have hx := List.getElem?_eq_getElem hj
      have hc2 : c < (enc d[j]).length := by rw [E.len]; exact hc
      rw [Nat.add_zero, h.cell j _ hx c _ (List.getElem?_eq_getElem hc2)]; rfl)
    (fun c hc => by
      rw [E.len] at hc
      rw [Nat.add_zero, Nat.add_assoc]; exact h.frozen _ (blk_lt hj hc)) (E.one _)
  rwa [Nat.add_zero] at this

theorem SwK.set (h : SwK enc k w0 blk off d W) (E : EncK enc k) {i : Nat} (hi : i < d.length) (x : α) : SwK enc k w0 blk off (d.set i x) (W.setCells blk (off + i * k) (enc x)) where
  os := by rw [setCells_os]; exact h.os
  tape := by rw [setCells_tape]; exact h.tape
  output := by rw [setCells_output]; exact h.output
  size := by rw [size_setCells]; exact h.size
  lt := by rw [size_setCells]; exact h.lt
  block := fun j hj hne => by rw [setCells_block _ _ _ _ _ hne]; exact h.block j hj hne
  cell := fun j y hy c v hv => by
    have hck : c < k := by have := (List.getElem?_eq_some_iff.1 hv).1; rwa [E.len] at this
    by_cases hj : i = j
    · subst hj
      rw [List.getElem?_set_self hi] at hy
      injection hy with hy
      subst hy
      have hc : c < (enc x).length := by rw [E.len]; exact hck
      rw [World.cell?_setCells_in blk (enc x) (off + i * k) W (fun q hq => by
        rw [E.len] at hq
        have hx := List.getElem?_eq_getElem hi
        have hc2 : q < (enc d[i]).length := by rw [E.len]; exact hq
        rw [h.cell i _ hx q _ (List.getElem?_eq_getElem hc2)]; rfl) c hc]
      rw [List.getElem?_eq_getElem hc] at hv
      exact hv
    · rw [List.getElem?_set_ne hj] at hy
      rw [World.cell?_setCells_out blk _ _ _ _ (fun _ _ => by
        rw [E.len]
        show off + j * k + c < off + i * k ∨ off + i * k + k ≤ off + j * k + c
        rcases Nat.lt_or_gt_of_ne hj with hl | hl
        · have := Nat.mul_le_mul_right k (show i + 1 ≤ j from hl)
          rw [Nat.add_mul, Nat.one_mul] at this
          right; omega
        · have := Nat.mul_le_mul_right k (show j + 1 ≤ i from hl)
          rw [Nat.add_mul, Nat.one_mul] at this
          left; omega)]
      exact h.cell j y hy c v hv
  frozen := fun j hj => by
    rw [World.frozen?_setCells]
    exact h.frozen j (by simpa using hj)

theorem SwK.swap (h : SwK enc k w0 blk off d W) (E : EncK enc k) {i j : Nat} {x y : α} (hi : i < d.length) (hj : j < d.length) :
    SwK enc k w0 blk off ((d.set i y).set j x) ((W.drew.setCells blk (off + i * k) (enc y)).setCells blk (off + j * k) (enc x)) :=
  (h.drew.set E hi y).set E (by simpa using hj) x
end

/-- what is asked of the comparison: wherever the sort stands, it tells by a number whether x is ahead of y, and turns nothing -/
def CmpK (P : Program) (g : Nat) (cb : Array Value) (enc : α → List Value) (k : Nat) (lt : α → α → Bool) (blk off n : Nat) (w0 : World) : Prop :=
  ∃ cf : α → α → Int, (∀ x y, decide (cf x y < 0) = lt x y) ∧ ∀ (d : List α) (W : World), d.length = n → SwK enc k w0 blk off d W → ∀ x y : α,
    Calls P g (#[.agg (enc x).toArray, .agg (enc y).toArray] ++ cb) W fun e W' => e = .returned (.int .i64 (cf x y)) ∧ Grown W W'

/-- the same, of two of which it is known how they stand -/
theorem CmpK.at {P : Program} {g : Nat} {cb : Array Value} {enc : α → List Value} {k : Nat} {lt : α → α → Bool} {blk off n : Nat} {w0 : World} (h : CmpK P g cb enc k lt blk off n w0) {x y : α} {b : Bool} (hb : lt x y = b) {d : List α} (hn : d.length = n)
    {W : World} (hW : SwK enc k w0 blk off d W) : ∃ r : Int, decide (r < 0) = b ∧ ∀ m os, Calls P g (#[.agg (enc x).toArray, .agg (enc y).toArray] ++ cb) (grow (W.drewN m) os) fun e w' => e = .returned (.int .i64 r) ∧ ∃ q os', w' = grow ((grow (W.drewN m) os).drewN q) os' := by
  obtain ⟨cf, h1, h2⟩ := h
  exact ⟨cf x y, by rw [h1, hb], fun m os => h2 d _ hn (hW.grown m os) x y⟩
end Go.Proofs.Ytomdbjmbkfdcmaa

namespace Go.Proofs.Ytomdbjmbkfdcmaa
set_option maxRecDepth 100000
open Go.RowKit Go.Sort

structure LayK (P : Program) (k : Nat) : Prop where
  mixed : P.follows .mixedOrders = true
  ins : P.funcs[101]? = some Try.f101
  swp : P.funcs[132]? = some Try.f132
  rot : P.funcs[117]? = some Try.f117
  sym : P.funcs[102]? = some Try.f102
  stb : P.funcs[90]? = some Try.f90
  top : P.funcs[53]? = some Try.f53
  tU : P.underlying 0 = some (TypeDesc.tuple #[])
  aU : ∀ w, (isAgg 0).run P w = .ok false w
  zU : ∀ w, (Go.sizeOf 0).run P w = .ok 1 w
  vU : ∀ w, (zeroValue 0).run P w = .ok (Value.tuple #[]) w
  tI : P.underlying 3 = some (TypeDesc.int IntKind.i64)
  aI : ∀ w, (isAgg 3).run P w = .ok false w
  zI : ∀ w, (Go.sizeOf 3).run P w = .ok 1 w
  vI : ∀ w, (zeroValue 3).run P w = .ok (Value.int IntKind.i64 0) w
  tB : P.underlying 4 = some (TypeDesc.bool)
  aB : ∀ w, (isAgg 4).run P w = .ok false w
  zB : ∀ w, (Go.sizeOf 4).run P w = .ok 1 w
  vB : ∀ w, (zeroValue 4).run P w = .ok (Value.bool false) w
  tS : P.underlying 24 = some (TypeDesc.slice 30)
  aS : ∀ w, (isAgg 24).run P w = .ok false w
  zS : ∀ w, (Go.sizeOf 24).run P w = .ok 1 w
  vS : ∀ w, (zeroValue 24).run P w = .ok (Value.slice none 0 0) w
  tC : P.underlying 84 = some (TypeDesc.func #[30, 30] #[3] false)
  aC : ∀ w, (isAgg 84).run P w = .ok false w
  zC : ∀ w, (Go.sizeOf 84).run P w = .ok 1 w
  vC : ∀ w, (zeroValue 84).run P w = .ok (Value.nilFunc) w
  tW : P.underlying 122 = some (TypeDesc.int IntKind.u64)
  aW : ∀ w, (isAgg 122).run P w = .ok false w
  zW : ∀ w, (Go.sizeOf 122).run P w = .ok 1 w
  vW : ∀ w, (zeroValue 122).run P w = .ok (Value.int IntKind.u64 0) w
  aE : ∀ w, (isAgg 30).run P w = .ok true w
  zE : ∀ w, (Go.sizeOf 30).run P w = .ok k w

theorem layK : LayK Try.prog 11 where
  mixed := by kernel_rfl
  ins := Try.func101
  swp := Try.func132
  rot := Try.func117
  sym := Try.func102
  stb := Try.func90
  top := Try.func53
  tU := Try.underlying0
  aU := Try.isAgg0
  zU := Try.sizeOf0
  vU := Try.zeroValue0
  tI := Try.underlying3
  aI := Try.isAgg3
  zI := Try.sizeOf3
  vI := Try.zeroValue3
  tB := Try.underlying4
  aB := Try.isAgg4
  zB := Try.sizeOf4
  vB := Try.zeroValue4
  tS := Try.underlying24
  aS := Try.isAgg24
  zS := Try.sizeOf24
  vS := Try.zeroValue24
  tC := Try.underlying84
  aC := Try.isAgg84
  zC := Try.sizeOf84
  vC := Try.zeroValue84
  tW := Try.underlying122
  aW := Try.isAgg122
  zW := Try.sizeOf122
  vW := Try.zeroValue122
  aE := Try.isAgg30
  zE := Try.sizeOf30
end Go.Proofs.Ytomdbjmbkfdcmaa

namespace Go.Proofs.Ytomdbjmbkfdcmaa
set_option maxRecDepth 100000
open Go.RowKit Go.Sort Srt
variable {α : Type} {Pg : Program} {enc : α → List Value} {k : Nat}

set_option maxHeartbeats 3200000 in
theorem insSortK_any {lt : α → α → Bool} (hw : Weak lt) (L : LayK Pg k) (henc : EncK enc k) (g : Nat) (cb : Array Value) (blk off cap a b n : Nat) (X S Y : List α) (w0 w : World)
    (eg : ∀ args w, (callFunc g args).run Pg w = .ok (.enter g args) w) (hcmp : CmpK Pg g cb enc k lt blk off n w0)
    (hn : (X ++ S ++ Y).length = n) (ha : X.length = a) (hb : X.length + S.length = b) (hmax : n < 1000000000000000000)
    (HS : SwK enc k w0 blk off (X ++ S ++ Y) w) :
    Calls Pg 101 #[.slice (some ⟨blk, off, none⟩) n cap, .int .i64 a, .int .i64 b, .func (.func g) #[] cb] w fun e w' => e = .returned (.tuple #[]) ∧ SwK enc k w0 blk off (X ++ isort lt S ++ Y) w' := by
  have hbn : b ≤ n := by rw [← hb, ← hn]; simp
  have hab : a ≤ b := by omega
  obtain ⟨F, hF⟩ : ∃ F, Hid (F = X ++ isort lt S ++ Y) := ⟨_, rfl⟩
  rw [← hF.out]
  have hstart : Hid (∃ D, Hid (D = X ++ (isort lt (S.take 1) ++ S.drop 1) ++ Y) ∧ SwK enc k w0 blk off D w) := by
    refine ⟨_, rfl, ?_⟩
    cases S with
    | nil => exact HS
    | cons x S => simpa [isort] using HS
  have HN := Lib.hid hn; have HA := Lib.hid ha; have HB := Lib.hid hb; have HC := Lib.hid hcmp; have HWk := Lib.hid hw
  clear hn ha hb hcmp HS hw
  have mixed := L.mixed; have tU := L.tU; have aU := L.aU; have zU := L.zU; have vU := L.vU; have tI := L.tI; have aI := L.aI; have zI := L.zI; have vI := L.vI; have tB := L.tB; have aB := L.aB; have zB := L.zB; have vB := L.vB; have tS := L.tS; have aS := L.aS; have zS := L.zS; have vS := L.vS; have tC := L.tC; have aC := L.aC; have zC := L.zC; have vC := L.vC; have tW := L.tW; have aW := L.aW; have zW := L.zW; have vW := L.vW; have aE := L.aE; have zE := L.zE
  have HE := Lib.hid henc; have HL0 := Lib.hid L
  clear henc L
  go_enter HL0.out.ins, Try.ntmps101
  go_wp2_with fail
  go_loopw [8] (fun v wr => ∃ (i : Nat) (D : List α), v = .int .i64 i ∧ a < i ∧ i ≤ b + 1 ∧ Hid (D = X ++ (isort lt (S.take (i - a)) ++ S.drop (i - a)) ++ Y) ∧ Hid (SwK enc k w0 blk off D wr)) (fun v _ => b + 1 - (intOf v).toNat)
  case atStart =>
    obtain ⟨D, h1, h2⟩ := hstart.out
    refine ⟨a + 1, D, by go_num, by omega, by omega, ?_, h2⟩
    show _ = _
    rw [h1.out, show a + 1 - a = 1 by omega]
  case round =>
    clear hstart
    obtain ⟨i, D, rfl, hai, hib, HD, HW⟩ := hrel
    by_cases hlt : i < b
    · have hlz : (i : Int) < (b : Int) := by omega
      obtain ⟨x, R, hR, hfin⟩ : ∃ x R, Hid (D = (X ++ isort lt (S.take (i - a))) ++ x :: R) ∧ Hid (∀ D', D' = X ++ merge lt (isort lt (S.take (i - a))) [x] ++ R → D' = X ++ (isort lt (S.take (i + 1 - a)) ++ S.drop (i + 1 - a)) ++ Y) := by
        have h1 := HA.out; have h2 := HB.out
        have hk : i - a < S.length := by omega
        refine ⟨S[i - a]'hk, S.drop (i - a + 1) ++ Y, ?_, ?_⟩
        · show _ = _
          rw [HD.out, ← List.cons_append, ← List.drop_eq_getElem_cons hk]
          simp only [List.append_assoc]
        · intro D' h
          rw [h, show i + 1 - a = i - a + 1 by omega, List.take_succ_eq_append_getElem hk, isort_snoc]
          simp
      obtain ⟨B, hB, hBs, hBl⟩ : ∃ B, Hid (B = isort lt (S.take (i - a))) ∧ Hid (Sorted lt B) ∧ Hid (X.length + B.length = i) := by
        have h1 := HA.out; have h2 := HB.out
        refine ⟨_, rfl, isort_sorted HWk.out _, ?_⟩
        show _ = _
        rw [isort_len, List.length_take]; omega
      rw [← hB.out] at hR hfin
      go_wp2_with fail
      go_loopw [9] (fun v wr2 => ∃ (j : Nat) (A1 A2 D' : List α), v = .int .i64 j ∧ a ≤ j ∧ j ≤ i ∧ Hid (B = A1 ++ A2) ∧ Hid (X.length + A1.length = j) ∧ Hid (∀ u ∈ A2, lt x u = true) ∧ Hid (D' = (X ++ A1) ++ x :: (A2 ++ R)) ∧ Hid (SwK enc k w0 blk off D' wr2)) (fun v _ => (intOf v).toNat)
      case atStart => exact ⟨i, B, [], D, rfl, by omega, Nat.le_refl _, by show _ = _; simp, hBl, by intro u hu; simp at hu, by show _ = _; rw [hR.out]; simp, HW⟩
      case round =>
        clear HW
        obtain ⟨j, A1, A2, D', rfl, haj, hji, hA, hjl, hx2, hD', HW⟩ := hrel
        by_cases hja : a < j
        · have hjaz : (a : Int) < (j : Int) := by omega
          obtain ⟨j1, A3, y, hj1, hA3, hl3⟩ : ∃ j1 A3 y, Hid (j = j1 + 1) ∧ Hid (A1 = A3 ++ [y]) ∧ Hid (X.length + A3.length = j1) := by
            have h1 := HA.out; have h2 := hjl.out
            obtain ⟨A3, y, e1, e2⟩ := list_last (A := A1) (m := j - a - 1) (by omega)
            exact ⟨j - 1, A3, y, by show _ = _; omega, e1, by show _ = _; omega⟩
          have hDl : Hid (D'.length = n) := by
            show _ = _
            rw [hD'.out, ← HN.out]
            have h3 := congrArg List.length hR.out
            have h4 := congrArg List.length HD.out
            have h5 := congrArg List.length hA.out
            simp [isort_len] at h3 h4 h5 ⊢
            omega
          have K : Hid (∀ W, SwK enc k w0 blk off D' W → Sem.run Pg (loadCellsFrom ⟨blk, off + j * k, none⟩ 0 k #[]) W = .ok (enc x).toArray W ∧ Sem.run Pg (loadCellsFrom ⟨blk, off + j1 * k, none⟩ 0 k #[]) W = .ok (enc y).toArray W) := by
            intro W hW
            exact ⟨hW.load HE.out Pg (by rw [hD'.out]; exact at_mid _ _ _ (by rw [List.length_append]; exact hjl.out)), hW.load HE.out Pg (by rw [hD'.out, hA3.out, show (X ++ (A3 ++ [y])) ++ x :: (A2 ++ R) = (X ++ A3) ++ y :: (x :: (A2 ++ R)) by simp]; exact at_mid _ _ _ (by rw [List.length_append]; exact hl3.out))⟩
          have q1 : (0 : Int) ≤ (j : Int) - 1 := by have := hj1.out; omega
          have q6 : 0 < j := by omega
          have q7 : j ≤ n := by omega
          have q8 : (1 : Int) ≤ (j : Int) := by omega
          have q2 : (j : Int) - 1 < (n : Int) := by omega
          have q3 : ((j : Int) - 1).toNat = j1 := by have := hj1.out; omega
          have q4 : IntKind.i64.wrap ((j : Int) - 1) = (j : Int) - 1 := wrap_is (by omega)
          have q5 : (j : Int) < (n : Int) := by omega
          cases hv : lt x y with
          | true =>
            obtain ⟨rr, hr, C⟩ := HC.out.at hv hDl.out HW.out
            have l1 : ∀ m os, _ := fun m os => (K.out _ (HW.out.grown m os)).1
            have l2 : ∀ m os, _ := fun m os => (K.out _ (HW.out.grown m os)).2
            go_wp2_with fail
            go_quiet_grown (first | (go_at_fn g; refine Calls.grown_of (C _ _)))
            have S2 := Lib.hid (HW.out.grown nq osq)
            clear C l1 l2
            generalize grow (wr.drewN nq) osq = wq at S2 ⊢
            have hjl2 : j < D'.length := by rw [hDl.out]; omega
            have hjl3 : j1 < D'.length := by rw [hDl.out]; have := hj1.out; omega
            have l1 := (K.out _ S2.out.drew).1
            have l2 := (K.out _ S2.out.drew).2
            have s1 := S2.out.drew.store HE.out Pg hjl2 y
            have s2 := (S2.out.drew.set HE.out hjl2 y).store HE.out Pg (j := j1) (by rw [List.length_set]; exact hjl3) x
            have n1 : (enc x).length = k := HE.out.len _
            have n2 : (enc y).length = k := HE.out.len _
            have S3 : Hid (SwK enc k w0 blk off ((D'.set j y).set j1 x) _) := S2.out.swap HE.out hjl2 hjl3
            clear hjl2 hjl3 S2
            have HD2 : Hid ((D'.set j y).set j1 x = (X ++ A3) ++ x :: ((y :: A2) ++ R)) := by
              show _ = _
              have e1 := hj1.out; have e2 := hl3.out
              rw [hD'.out, hA3.out, e1, show X ++ (A3 ++ [y]) ++ x :: (A2 ++ R) = (X ++ A3) ++ y :: x :: (A2 ++ R) by simp, ← e2, ← List.length_append, swap_adj]
              simp
            obtain ⟨D2, hD2⟩ : ∃ D2, D2 = (D'.set j y).set j1 x := ⟨_, rfl⟩
            rw [← hD2] at HD2 S3
            clear hD2
            have hx3 : Hid (∀ u ∈ y :: A2, lt x u = true) := by
              intro u hu
              rcases List.mem_cons.1 hu with rfl | hu
              · exact hv
              · exact hx2.out u hu
            have hA4 : Hid (B = A3 ++ y :: A2) := by show _ = _; rw [hA.out, hA3.out]; simp
            obtain ⟨cx, hcx⟩ : ∃ c, c = enc x := ⟨_, rfl⟩
            obtain ⟨cy, hcy⟩ : ∃ c, c = enc y := ⟨_, rfl⟩
            rw [← hcx] at l1 s2 n1 S3
            rw [← hcy] at l2 s1 s2 n2 S3
            clear hcx hcy
            go_wp2_with fail
            go_big_region_o
            all_goals go_wp2
            exact ⟨⟨j1, A3, y :: A2, D2, by have := hj1.out; go_num, by have := hj1.out; omega, by have := hj1.out; omega, hA4, hl3, hx3, HD2, S3⟩, by have := hj1.out; simp [intOf]; omega⟩
          | false =>
            obtain ⟨rr, hr, C⟩ := HC.out.at hv hDl.out HW.out
            have l1 : ∀ m os, _ := fun m os => (K.out _ (HW.out.grown m os)).1
            have l2 : ∀ m os, _ := fun m os => (K.out _ (HW.out.grown m os)).2
            go_wp2_with fail
            go_quiet_grown (first | (go_at_fn g; refine Calls.grown_of (C _ _)))
            have S2 := Lib.hid (HW.out.grown nq osq)
            clear C l1 l2
            generalize grow (wr.drewN nq) osq = wq at S2 ⊢
            have HD3 := Lib.hid (hfin.out D' (by
              have h1 := sorted_upto HWk.out (A := A3) (y := y) (x := x) (by have := hBs.out; rw [hA.out, hA3.out] at this; exact (Sorted.split this).1) hv
              rw [hD'.out, hA.out, merge_one A1 A2 x (by rw [hA3.out]; exact h1) hx2.out]
              simp))
            go_wp2
            exact ⟨⟨i + 1, D', by go_num, by omega, by omega, HD3, S2⟩, by simp [intOf]; omega⟩
        · have hjaz : ¬ (a : Int) < (j : Int) := by omega
          have HD3 := Lib.hid (hfin.out D' (by
            have h1 := HA.out; have h2 := hjl.out
            have h3 : A1 = [] := List.eq_nil_of_length_eq_zero (by omega)
            rw [hD'.out, hA.out, merge_one A1 A2 x (by rw [h3]; simp) hx2.out]
            simp))
          have hjd : decide ((j : Int) > (a : Int)) = false := decide_eq_false (by omega)
          go_wp2_with fail
          have S2 := Lib.hid HW.out.drew
          go_big_region_o
          all_goals go_wp2
          exact ⟨⟨i + 1, D', by go_num, by omega, by omega, HD3, S2⟩, by simp [intOf]; omega⟩
    · have hlz : ¬ (i : Int) < (b : Int) := by omega
      have hfin : Hid (D = F) := by
        show _ = _
        have h1 := HA.out; have h2 := HB.out
        rw [HD.out, hF.out, List.take_of_length_le (by omega), List.drop_of_length_le (by omega), List.append_nil]
      go_wp2
      go_end0
      exact ⟨rfl, by rw [← hfin.out]; exact HW.out⟩
end Go.Proofs.Ytomdbjmbkfdcmaa

namespace Go.Proofs.Ytomdbjmbkfdcmaa
set_option maxRecDepth 100000
open Go.RowKit Go.Sort Srt
variable {α : Type} {Pg : Program} {enc : α → List Value} {k : Nat}

set_option maxHeartbeats 3200000 in
theorem swapRangeK_any (L : LayK Pg k) (henc : EncK enc k) (g : Nat) (cb : Array Value) (blk off cap a b m n : Nat) (X U Y V Z : List α) (w0 w : World)
    (hn : (X ++ U ++ Y ++ V ++ Z).length = n) (ha : X.length = a) (hb : X.length + U.length + Y.length = b) (hu : U.length = m) (hv : V.length = m) (hmax : n < 1000000000000000000)
    (HS : SwK enc k w0 blk off (X ++ U ++ Y ++ V ++ Z) w) :
    Calls Pg 132 #[.slice (some ⟨blk, off, none⟩) n cap, .int .i64 a, .int .i64 b, .int .i64 m, .func (.func g) #[] cb] w fun e w' => e = .returned (.tuple #[]) ∧ SwK enc k w0 blk off (X ++ V ++ Y ++ U ++ Z) w' := by
  have hbn : b + m ≤ n := by simp at hn; omega
  have hab : a + m ≤ b := by omega
  obtain ⟨F, hF⟩ : ∃ F, Hid (F = X ++ V ++ Y ++ U ++ Z) := ⟨_, rfl⟩
  rw [← hF.out]
  have HN := Lib.hid hn; have HA := Lib.hid ha; have HB := Lib.hid hb; have HU := Lib.hid hu; have HV := Lib.hid hv; have HW := Lib.hid HS
  clear hn ha hb hu hv HS
  have mixed := L.mixed; have tU := L.tU; have aU := L.aU; have zU := L.zU; have vU := L.vU; have tI := L.tI; have aI := L.aI; have zI := L.zI; have vI := L.vI; have tB := L.tB; have aB := L.aB; have zB := L.zB; have vB := L.vB; have tS := L.tS; have aS := L.aS; have zS := L.zS; have vS := L.vS; have tC := L.tC; have aC := L.aC; have zC := L.zC; have vC := L.vC; have tW := L.tW; have aW := L.aW; have zW := L.zW; have vW := L.vW; have aE := L.aE; have zE := L.zE
  have HE := Lib.hid henc; have HL0 := Lib.hid L
  clear henc L
  go_enter HL0.out.swp, Try.ntmps132
  go_wp2_with fail
  go_loopw [10] (fun v wr => ∃ (i : Nat) (D : List α), v = .int .i64 i ∧ i ≤ m ∧ Hid (D = X ++ (V.take i ++ U.drop i) ++ Y ++ (U.take i ++ V.drop i) ++ Z) ∧ Hid (SwK enc k w0 blk off D wr)) (fun v _ => m - (intOf v).toNat)
  case atStart => exact ⟨0, _, rfl, Nat.zero_le _, by show _ = _; simp, HW⟩
  case round =>
    clear HW
    obtain ⟨i, D, rfl, him, HD, HW⟩ := hrel
    by_cases hlt : i < m
    · have hlz : (i : Int) < (m : Int) := by omega
      obtain ⟨x, y, P, Q, R, hP, hp, hq, hD2⟩ : ∃ x y P Q R, Hid (D = P ++ x :: (Q ++ y :: R)) ∧ Hid (P.length = a + i) ∧ Hid (P.length + 1 + Q.length = b + i) ∧ Hid (P ++ y :: (Q ++ x :: R) = X ++ (V.take (i + 1) ++ U.drop (i + 1)) ++ Y ++ (U.take (i + 1) ++ V.drop (i + 1)) ++ Z) := by
        have h1 := HA.out; have h2 := HB.out; have h3 := HU.out; have h4 := HV.out
        have hiu : i < U.length := by omega
        have hiv : i < V.length := by omega
        refine ⟨U[i]'hiu, V[i]'hiv, X ++ V.take i, U.drop (i + 1) ++ Y ++ U.take i, V.drop (i + 1) ++ Z, ?_, ?_, ?_, ?_⟩
        · show _ = _
          rw [HD.out, List.drop_eq_getElem_cons hiu, List.drop_eq_getElem_cons hiv]
          simp only [List.append_assoc, List.cons_append]
        · show _ = _
          rw [List.length_append, List.length_take]; omega
        · show _ = _
          simp only [List.length_append, List.length_take, List.length_drop]; omega
        · show _ = _
          rw [List.take_succ_eq_append_getElem hiu, List.take_succ_eq_append_getElem hiv]
          simp only [List.append_assoc, List.cons_append, List.nil_append]
      have hDl : D.length = n := by
        have h3 := HU.out; have h4 := HV.out
        rw [HD.out, ← HN.out]
        simp only [List.length_append, List.length_take, List.length_drop]; omega
      have l1 := HW.out.drew.load HE.out Pg (j := a + i) (x := x) (by rw [hP.out]; exact at_mid _ _ _ hp.out)
      have l2 := HW.out.drew.load HE.out Pg (j := b + i) (x := y) (by rw [hP.out, ← List.cons_append, ← List.append_assoc]; exact at_mid _ _ _ (by have := hq.out; simp; omega))
      have lt1 : a + i < D.length := by omega
      have lt2 : b + i < D.length := by omega
      have s1 := HW.out.drew.store HE.out Pg lt1 y
      have s2 := (HW.out.drew.set HE.out lt1 y).store HE.out Pg (j := (b + i)) (by rw [List.length_set]; exact lt2) x
      have n1 : (enc x).length = k := HE.out.len _
      have n2 : (enc y).length = k := HE.out.len _
      have S3 : Hid (SwK enc k w0 blk off ((D.set (a + i) y).set (b + i) x) _) := HW.out.swap HE.out lt1 lt2
      have HD2 : Hid ((D.set (a + i) y).set (b + i) x = X ++ (V.take (i + 1) ++ U.drop (i + 1)) ++ Y ++ (U.take (i + 1) ++ V.drop (i + 1)) ++ Z) := by
        show _ = _
        rw [← hD2.out, hP.out, ← hp.out, ← hq.out, swap_far]
      clear lt1 lt2 hDl
      have q1 : (0 : Int) ≤ (a : Int) + i := by omega
      have q2 : (a : Int) + i < (n : Int) := by omega
      have q3 : ((a : Int) + i).toNat = a + i := by omega
      have q4 : IntKind.i64.wrap ((a : Int) + i) = (a : Int) + i := wrap_is (by omega)
      have r1 : (0 : Int) ≤ (b : Int) + i := by omega
      have r2 : (b : Int) + i < (n : Int) := by omega
      have r3 : ((b : Int) + i).toNat = b + i := by omega
      have r4 : IntKind.i64.wrap ((b : Int) + i) = (b : Int) + i := wrap_is (by omega)
      obtain ⟨cx, hcx⟩ : ∃ c, c = enc x := ⟨_, rfl⟩
      obtain ⟨cy, hcy⟩ : ∃ c, c = enc y := ⟨_, rfl⟩
      rw [← hcx] at l1 s2 n1 S3
      rw [← hcy] at l2 s1 s2 n2 S3
      clear hcx hcy
      go_wp2_with fail
      go_big_region_o
      all_goals go_wp2
      exact ⟨⟨i + 1, _, by go_num, by omega, HD2, S3⟩, by simp [intOf]; omega⟩
    · have hlz : ¬ (i : Int) < (m : Int) := by omega
      have hfin : Hid (D = F) := by
        show _ = _
        have h3 := HU.out; have h4 := HV.out
        rw [HD.out, hF.out, List.take_of_length_le (by omega), List.drop_of_length_le (by omega), List.take_of_length_le (by omega), List.drop_of_length_le (by omega), List.append_nil, List.append_nil]
      go_wp2
      go_end0
      exact ⟨rfl, by rw [← hfin.out]; exact HW.out⟩

set_option maxHeartbeats 3200000 in
theorem rotateK_any (L : LayK Pg k) (henc : EncK enc k) (g : Nat) (cb : Array Value) (blk off cap a m b n : Nat) (X U V Y : List α) (w0 w : World)
    (hn : (X ++ U ++ V ++ Y).length = n) (ha : X.length = a) (hm : X.length + U.length = m) (hb : m + V.length = b) (hu : 0 < U.length) (hv : 0 < V.length) (hmax : n < 1000000000000000000)
    (HS : SwK enc k w0 blk off (X ++ U ++ V ++ Y) w) :
    Calls Pg 117 #[.slice (some ⟨blk, off, none⟩) n cap, .int .i64 a, .int .i64 m, .int .i64 b, .func (.func g) #[] cb] w fun e w' => e = .returned (.tuple #[]) ∧ SwK enc k w0 blk off (X ++ V ++ U ++ Y) w' := by
  have hbn : b ≤ n := by simp at hn; omega
  have ham : a < m := by omega
  have hmb : m < b := by omega
  obtain ⟨F, hF⟩ : ∃ F, Hid (F = X ++ V ++ U ++ Y) := ⟨_, rfl⟩
  rw [← hF.out]
  have HN := Lib.hid hn; have HA := Lib.hid ha; have HM := Lib.hid hm; have HB := Lib.hid hb; have HW := Lib.hid HS
  have hu0 : 0 < m - a := by omega
  have hv0 : 0 < b - m := by omega
  have hu1 := Lib.hid (show U.length = m - a by omega)
  have hv1 := Lib.hid (show V.length = b - m by omega)
  clear hn ha hm hb HS hu hv
  have w1 : IntKind.i64.wrap ((m : Int) - a) = ((m - a : Nat) : Int) := by rw [wrap_is (by omega)]; omega
  have w2 : IntKind.i64.wrap ((b : Int) - m) = ((b - m : Nat) : Int) := by rw [wrap_is (by omega)]; omega
  have mixed := L.mixed; have tU := L.tU; have aU := L.aU; have zU := L.zU; have vU := L.vU; have tI := L.tI; have aI := L.aI; have zI := L.zI; have vI := L.vI; have tB := L.tB; have aB := L.aB; have zB := L.zB; have vB := L.vB; have tS := L.tS; have aS := L.aS; have zS := L.zS; have vS := L.vS; have tC := L.tC; have aC := L.aC; have zC := L.zC; have vC := L.vC; have tW := L.tW; have aW := L.aW; have zW := L.zW; have vW := L.vW; have aE := L.aE; have zE := L.zE
  have eswp : ∀ args w, (callFunc 132 args).run Pg w = .ok (.enter 132 args) w := enters_of L.swp (by kernel_rfl) rfl
  have HE := Lib.hid henc; have HL0 := Lib.hid L
  clear henc L
  go_enter HL0.out.rot, Try.ntmps117
  go_wp2_with fail
  go_loopw [10, 11] (fun v u wr => ∃ (i j : Nat) (D X' U' V' Y' : List α), v = .int .i64 i ∧ u = .int .i64 j ∧ 0 < i ∧ 0 < j ∧ i ≤ m ∧ m + j ≤ b ∧ Hid (D = X' ++ U' ++ V' ++ Y') ∧ Hid (D.length = n) ∧ Hid (X'.length + U'.length = m) ∧ Hid (U'.length = i) ∧ Hid (V'.length = j) ∧ Hid (F = X' ++ V' ++ U' ++ Y') ∧ Hid (SwK enc k w0 blk off D wr)) (fun v u _ => (intOf v).toNat + (intOf u).toNat)
  case atStart => exact ⟨m - a, b - m, _, X, U, V, Y, rfl, rfl, hu0, hv0, by omega, by omega, Lib.hid rfl, HN, HM, hu1, hv1, hF, HW⟩
  case round =>
    clear HW HN HM hu1 hv1 hF
    obtain ⟨i, j, D, X', U', V', Y', rfl, rfl, hi, hj, him, hjb, HD, HL, HM, HU, HV, hF, HW⟩ := hrel
    have w3 : IntKind.i64.wrap ((m : Int) - i) = ((m - i : Nat) : Int) := by rw [wrap_is (by omega)]; omega
    rcases Nat.lt_trichotomy i j with hij | hij | hij
    · have h1 : ¬ (i : Int) = j := by omega
      have h2 : ¬ (j : Int) < i := by omega
      have w4 : IntKind.i64.wrap ((m : Int) + j) = (m : Int) + j := wrap_is (by omega)
      have w5 : IntKind.i64.wrap ((m : Int) + j - i) = ((m + j - i : Nat) : Int) := by rw [wrap_is (by omega)]; omega
      have w6 : IntKind.i64.wrap ((j : Int) - i) = ((j - i : Nat) : Int) := by rw [wrap_is (by omega)]; omega
      obtain ⟨V1, V2, hV, hl1, hl2⟩ : ∃ V1 V2, Hid (V' = V1 ++ V2) ∧ Hid (V1.length = j - i) ∧ Hid (V2.length = i) := by
        have := HV.out
        exact ⟨V'.take (j - i), V'.drop (j - i), by show _ = _; rw [List.take_append_drop], by show _ = _; rw [List.length_take]; omega, by show _ = _; rw [List.length_drop]; omega⟩
      have C := Lib.hid (swapRangeK_any HL0.out HE.out  g cb blk off cap (m - i) (m + j - i) i n X' U' V1 V2 Y' w0 wr (by have := HL.out; rw [HD.out, hV.out] at this; simpa using this)
        (by have := HM.out; have := HU.out; omega) (by have := HM.out; have := hl1.out; omega) HU.out hl2.out hmax (by have := HW.out; rw [HD.out, hV.out] at this; simpa using this))
      go_wp2_with (go_at_call 132; refine C.out.mono ?_; rintro e w' ⟨rfl, HS⟩)
      have HS2 := Lib.hid HS
      clear HS
      exact ⟨⟨i, j - i, _, X', V2, V1, U' ++ Y', rfl, by go_num, hi, by omega, him, by omega, by show _ = _; simp, by show _ = _; have h1 := HL.out; have h2 := HD.out; have h3 := hV.out; rw [h2, h3] at h1; simp at h1 ⊢; omega, by show _ = _; have h1 := HM.out; have h2 := HU.out; have h3 := hl2.out; omega, hl2, hl1, by show _ = _; rw [hF.out, hV.out]; simp, HS2⟩, by simp [intOf]; omega⟩
    · subst hij
      have C := Lib.hid (swapRangeK_any HL0.out HE.out  g cb blk off cap (m - i) m i n X' U' [] V' Y' w0 wr (by have := HL.out; rw [HD.out] at this; simpa using this)
        (by have := HM.out; have := HU.out; omega) (by have := HM.out; simpa using this) HU.out HV.out hmax (by have := HW.out; rw [HD.out] at this; simpa using this))
      go_wp2_with (go_at_call 132; refine C.out.mono ?_; rintro e w' ⟨rfl, HS⟩)
      go_end0
      exact ⟨rfl, by rw [hF.out]; simpa using HS⟩
    · have h1 : ¬ (i : Int) = j := by omega
      have h2 : (j : Int) < i := by omega
      have w6 : IntKind.i64.wrap ((i : Int) - j) = ((i - j : Nat) : Int) := by rw [wrap_is (by omega)]; omega
      obtain ⟨U1, U2, hU, hl1, hl2⟩ : ∃ U1 U2, Hid (U' = U1 ++ U2) ∧ Hid (U1.length = j) ∧ Hid (U2.length = i - j) := by
        have := HU.out
        exact ⟨U'.take j, U'.drop j, by show _ = _; rw [List.take_append_drop], by show _ = _; rw [List.length_take]; omega, by show _ = _; rw [List.length_drop]; omega⟩
      have C := Lib.hid (swapRangeK_any HL0.out HE.out  g cb blk off cap (m - i) m j n X' U1 U2 V' Y' w0 wr (by have := HL.out; rw [HD.out, hU.out] at this; simpa using this)
        (by have := HM.out; have := HU.out; omega) (by have h1 := HM.out; rw [hU.out] at h1; simpa [Nat.add_assoc] using h1) hl1.out HV.out hmax (by have := HW.out; rw [HD.out, hU.out] at this; simpa using this))
      go_wp2_with (go_at_call 132; refine C.out.mono ?_; rintro e w' ⟨rfl, HS⟩)
      have HS2 := Lib.hid HS
      clear HS
      exact ⟨⟨i - j, j, _, X' ++ V', U2, U1, Y', by go_num, rfl, by omega, hj, by omega, hjb, by show _ = _; simp, by show _ = _; have h1 := HL.out; have h2 := HD.out; have h3 := hU.out; rw [h2, h3] at h1; simp at h1 ⊢; omega, by show _ = _; have h1 := HM.out; have h2 := HU.out; have h3 := hl2.out; have h4 := HV.out; rw [List.length_append]; omega, hl2, hl1, by show _ = _; rw [hF.out, hU.out]; simp, HS2⟩, by simp [intOf]; omega⟩
end Go.Proofs.Ytomdbjmbkfdcmaa

