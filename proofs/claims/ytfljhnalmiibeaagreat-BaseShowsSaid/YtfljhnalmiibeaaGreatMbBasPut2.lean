/- Several texts laid together: BasPut2, MulRef, MulRight, MulRightG, Tail. -/
import Derived.Test.YtfljhnalmiibeaaGreatMbBasPut
import Derived.Test.YtfljhnalmiibeaaGreatMbMulCmp
import Derived.Test.YtfljhnalmiibeaaGreatMbBasMath
import Derived.Deep.RegionHeld3
import Derived.Laws.NewBlocks
import Derived.Test.YtfljhnalmiibeaaGreatMbValMath
import Derived.Shelf.SlSortCmp.QuietGrown
import Derived.Shelf.RegionOpenPlain
import Derived.BigRegion
import Derived.IntWalk
import Derived.Shelf.Abstract
import Derived.Deep.DeepCutAuto
import Derived.Deep.CutBlock
import Derived.Deep.RegionWith
import Derived.BigQuiet
import Derived.WalkKit
namespace Go.Proofs.YtfljhnalmiibeaaGreat
set_option maxRecDepth 100000
open Go.RowKit
theorem old_row13 {w : World} {g : Nat} {o : Obj} (o' : Obj) (h : w.heap[g]? = some o) : (w.alloc o').heap[g]? = some o := row_below h (below_new (Below.refl _ _) _)
theorem new_row13 (w : World) (o : Obj) {g : Nat} (h : w.heap.size = g) : (w.alloc o).heap[g]? = some o := by subst h; exact heap_alloc_new _ _
theorem row_lt {w : World} {g : Nat} {o : Obj} (h : w.heap[g]? = some o) : g < w.heap.size := (Array.getElem?_eq_some_iff.1 h).1
theorem dropL_lenB {b : List (List LQ)} (hb : BaseOk b) (t : Int) : (linesB b t).length ≤ 4294967000 := linesB_len hb t
set_option maxHeartbeats 3200000 in
theorem put13_any (A : Option Addr) (n c : Nat) (b : List (List LQ)) (t : Int) (x : LnR) (y : LQ) (w0 w : World) (h : RdB w0 A n c b) (hw : Below w0.heap.size w0 w) (hb : BaseOk b) (hx : LineR w0 x y) (hs : LineOk y) :
    Calls Tryz.prog 18 #[.agg #[.slice A n c], .int .i64 t, x.agg] w fun e w' => ∃ z : SlR, e = .returned (.agg #[.slice z.a z.n z.c]) ∧ (∀ U, Agree w0.heap.size w.heap.size w' U → RdB U z.a z.n z.c (putB13 b t y)) ∧ (z.n = n ∧ ∀ a, z.a = some a → w.heap.size ≤ a.block) ∧ Below w.heap.size w w' := by
  have hn : n ≤ 4294967296 := by have := h.len; have := hb.tabs; omega
  have hln := linesB_len hb t
  obtain ⟨w1, hw1⟩ : ∃ w1, w1 = (((w.alloc (baseBox A n c)).alloc (lineBox x)).alloc (baseBox none 0 0)) := ⟨_, rfl⟩
  have HW := Lib.hid hw1
  have r0 : w1.heap[w.heap.size]? = some (baseBox A n c) := by rw [hw1]; exact old_row13 _ (old_row13 _ (new_row13 _ _ rfl))
  have r1 : w1.heap[w.heap.size + 1]? = some (lineBox x) := by rw [hw1]; exact old_row13 _ (new_row13 _ _ (by simp only [World.size_alloc]))
  have r2 : w1.heap[w.heap.size + 1 + 1]? = some (baseBox none 0 0) := by rw [hw1]; exact new_row13 _ _ (by simp only [World.size_alloc])
  have b1 : Below w.heap.size w w1 := by rw [hw1]; exact below_new (below_new (below_new (Below.refl _ _) _) _) _
  have sz : w1.heap.size = w.heap.size + 1 + 1 + 1 := by rw [hw1]; simp only [World.size_alloc]
  have p0 := base_row r0
  have T := Lib.hid (tableOf_any A n c b t w0 w1 h (below_then hw b1))
  have HR := Lib.hid h; have HW0 := Lib.hid hw
  obtain ⟨ll, hll⟩ : ∃ ll, Hid (linesB b t = ll) := ⟨_, rfl⟩
  rw [hll.out] at T hln
  obtain ⟨bb2, hbb2⟩ : ∃ z, Hid (putB13 b t y = z) := ⟨_, rfl⟩
  have hans : Hid (bb2 = setB b t (putL ll y)) := by show _ = _; rw [← hbb2.out, ← hll.out]; rfl
  rw [hbb2.out]
  have B1 := Lib.hid b1
  have WI : Hid (∀ (W : World) (z : SlR), Below w1.heap.size w1 W → RdLs w0 z.a z.n z.c ll → Calls Tryz.prog 38 #[.slice z.a z.n z.c, .agg #[.int .i64 x.key, .slice x.ca x.cn x.cc, .slice x.ba x.bn x.bc]] W fun e w' => ∃ u : SlR, e = .returned (.slice u.a u.n u.c) ∧ (∀ U, Agree w0.heap.size W.heap.size w' U → RdLs U u.a u.n u.c (putL ll y)) ∧ Below W.heap.size W w') := by
    show ∀ W z, _; intro W z hW hz
    exact with_any z.a z.n z.c ll x y w0 W hz (below_then hw (below_then b1 hW)) (by have := hz.len; omega) hx hs
  have HV : Hid (∀ (W : World) (z m : SlR) (hi : Nat), Below w1.heap.size w1 W → hi ≤ W.heap.size → (∀ U, Agree w0.heap.size hi W U → RdLs U m.a m.n m.c (putL ll y)) → Calls Tryz.prog 37 #[.agg #[.slice z.a z.n z.c, .slice A n c, .int .i64 t], .slice m.a m.n m.c] W fun e w' => ∃ u : SlR, e = .returned (.agg #[.slice u.a u.n u.c]) ∧ (∀ U, Agree w0.heap.size hi w' U → RdB U u.a u.n u.c bb2) ∧ (u.n = n ∧ ∀ a, u.a = some a → hi ≤ a.block) ∧ Below W.heap.size W w') := by
    show ∀ W z m hi, _; intro W z m hi hW hhi hm
    rw [hans.out]
    exact having_any z.a z.n z.c A n c t m b _ hi w0 W h (below_then hw (below_then b1 hW)) hhi hm hn
  have HSZ := Lib.hid sz
  have R0 := Lib.hid r0
  have R1 := Lib.hid r1
  have R2 := Lib.hid r2
  clear h hw hb hx hs b1 sz hw1 hln hn r0 r1 r2
  go_enter Tryz.func18, Tryz.ntmps18
  go_upto_region 1 with fail
  rw [show (((w.alloc (baseBox A n c)).alloc (lineBox x)).alloc (baseBox none 0 0)) = w1 from HW.out.symm]
  clear HW
  go_upto_region 2 with (go_at_call 33; refine T.out.mono ?_; rintro e w2 ⟨z, rfl, hz, b2⟩)
  have HZ := Lib.hid hz
  obtain ⟨w3, hw3⟩ : ∃ w3, w3 = w2.alloc (tableBox z.a z.n z.c A n c t) := ⟨_, rfl⟩
  have r3 : w3.heap[w2.heap.size]? = some (tableBox z.a z.n z.c A n c t) := by rw [hw3]; exact heap_alloc_new _ _
  have b3 : Below w1.heap.size w1 w3 := by rw [hw3]; exact below_new b2 _
  rw [show w2.alloc (.cells #[.slice z.a z.n z.c, .slice A n c, .int .i64 t] 83) = w3 from hw3.symm]
  have hsz2 : w1.heap.size ≤ w2.heap.size := b2.size
  clear hw3 b2 hz T p0
  have B3 := Lib.hid b3
  obtain ⟨q0, q1, q2⟩ := table_row r3
  have hq := row_lt r3
  have hr1 := row_below R1.out b3
  obtain ⟨l0, l1, l2⟩ := line_row hr1
  have hg1l := row_lt hr1
  have hr2 := row_below R2.out b3
  have e2 := base_row hr2
  have f2 := frozen_row hr2
  have hg2l := row_lt hr2
  have HG2 : Hid (w.heap.size ≤ w.heap.size + 1 + 1 ∧ w.heap.size + 1 + 1 < w1.heap.size) := by have := HSZ.out; show _ ∧ _; omega
  generalize hg1 : w.heap.size + 1 = g1 at R1 R2 hr1 l0 l1 l2 hg1l hr2 e2 f2 hg2l HG2 ⊢
  generalize hg2 : g1 + 1 = g2 at R2 hr2 e2 f2 hg2l HG2 ⊢
  generalize hgt : w2.heap.size = gt at q0 q1 q2 hq ⊢
  have HNE : Hid (g1 ≠ g2 ∧ gt ≠ g2) := by have h1 := HSZ.out; have h2 := HG2.out; show _ ∧ _; omega
  clear hg1 hg2 hgt hr2 hr1 r3 b3
  have hS0 : w3.cell? ⟨gt, 0, none⟩ = some (.slice z.a z.n z.c) ∧ w3.cell? ⟨gt, 1, none⟩ = some (.slice A n c) ∧ w3.cell? ⟨gt, 2, none⟩ = some (.int .i64 t) ∧ w3.cell? ⟨g1, 0, none⟩ = some (.int .i64 x.key) ∧ w3.cell? ⟨g1, 1, none⟩ = some (.slice x.ca x.cn x.cc) ∧ w3.cell? ⟨g1, 2, none⟩ = some (.slice x.ba x.bn x.bc) ∧ (∃ z, w3.cell? ⟨g2, 0, none⟩ = some z) ∧ w3.frozen? ⟨g2, 0, none⟩ = false ∧ gt < w3.heap.size ∧ g1 < w3.heap.size ∧ g2 < w3.heap.size := ⟨q0, q1, q2, l0, l1, l2, ⟨_, e2⟩, f2 0, hq, hg1l, hg2l⟩
  have K : Hid (∀ W W' : World, (W.cell? ⟨gt, 0, none⟩ = some (.slice z.a z.n z.c) ∧ W.cell? ⟨gt, 1, none⟩ = some (.slice A n c) ∧ W.cell? ⟨gt, 2, none⟩ = some (.int .i64 t) ∧ W.cell? ⟨g1, 0, none⟩ = some (.int .i64 x.key) ∧ W.cell? ⟨g1, 1, none⟩ = some (.slice x.ca x.cn x.cc) ∧ W.cell? ⟨g1, 2, none⟩ = some (.slice x.ba x.bn x.bc) ∧ (∃ z, W.cell? ⟨g2, 0, none⟩ = some z) ∧ W.frozen? ⟨g2, 0, none⟩ = false ∧ gt < W.heap.size ∧ g1 < W.heap.size ∧ g2 < W.heap.size) → Below W.heap.size W W' → (W'.cell? ⟨gt, 0, none⟩ = some (.slice z.a z.n z.c) ∧ W'.cell? ⟨gt, 1, none⟩ = some (.slice A n c) ∧ W'.cell? ⟨gt, 2, none⟩ = some (.int .i64 t) ∧ W'.cell? ⟨g1, 0, none⟩ = some (.int .i64 x.key) ∧ W'.cell? ⟨g1, 1, none⟩ = some (.slice x.ca x.cn x.cc) ∧ W'.cell? ⟨g1, 2, none⟩ = some (.slice x.ba x.bn x.bc) ∧ (∃ z, W'.cell? ⟨g2, 0, none⟩ = some z) ∧ W'.frozen? ⟨g2, 0, none⟩ = false ∧ gt < W'.heap.size ∧ g1 < W'.heap.size ∧ g2 < W'.heap.size)) := by
    show ∀ W W', _
    rintro W W' ⟨k0, k1, k2, k3, k4, k5, ⟨z, k6⟩, k7, k8, k9, k10⟩ hb
    exact ⟨(hb.cell (p := ⟨gt, 0, none⟩) k8).trans k0, (hb.cell (p := ⟨gt, 1, none⟩) k8).trans k1, (hb.cell (p := ⟨gt, 2, none⟩) k8).trans k2, (hb.cell (p := ⟨g1, 0, none⟩) k9).trans k3, (hb.cell (p := ⟨g1, 1, none⟩) k9).trans k4, (hb.cell (p := ⟨g1, 2, none⟩) k9).trans k5, ⟨z, (hb.cell (p := ⟨g2, 0, none⟩) k10).trans k6⟩, (by simp only [World.frozen?, hb.block g2 k10] at k7 ⊢; exact k7), Nat.lt_of_lt_of_le k8 hb.size, Nat.lt_of_lt_of_le k9 hb.size, Nat.lt_of_lt_of_le k10 hb.size⟩
  have K2 : Hid (∀ (W : World) (xv : Value), (W.cell? ⟨gt, 0, none⟩ = some (.slice z.a z.n z.c) ∧ W.cell? ⟨gt, 1, none⟩ = some (.slice A n c) ∧ W.cell? ⟨gt, 2, none⟩ = some (.int .i64 t) ∧ W.cell? ⟨g1, 0, none⟩ = some (.int .i64 x.key) ∧ W.cell? ⟨g1, 1, none⟩ = some (.slice x.ca x.cn x.cc) ∧ W.cell? ⟨g1, 2, none⟩ = some (.slice x.ba x.bn x.bc) ∧ (∃ z, W.cell? ⟨g2, 0, none⟩ = some z) ∧ W.frozen? ⟨g2, 0, none⟩ = false ∧ gt < W.heap.size ∧ g1 < W.heap.size ∧ g2 < W.heap.size) → ((W.setCell ⟨g2, 0, none⟩ xv).cell? ⟨gt, 0, none⟩ = some (.slice z.a z.n z.c) ∧ (W.setCell ⟨g2, 0, none⟩ xv).cell? ⟨gt, 1, none⟩ = some (.slice A n c) ∧ (W.setCell ⟨g2, 0, none⟩ xv).cell? ⟨gt, 2, none⟩ = some (.int .i64 t) ∧ (W.setCell ⟨g2, 0, none⟩ xv).cell? ⟨g1, 0, none⟩ = some (.int .i64 x.key) ∧ (W.setCell ⟨g2, 0, none⟩ xv).cell? ⟨g1, 1, none⟩ = some (.slice x.ca x.cn x.cc) ∧ (W.setCell ⟨g2, 0, none⟩ xv).cell? ⟨g1, 2, none⟩ = some (.slice x.ba x.bn x.bc) ∧ (∃ z, (W.setCell ⟨g2, 0, none⟩ xv).cell? ⟨g2, 0, none⟩ = some z) ∧ (W.setCell ⟨g2, 0, none⟩ xv).frozen? ⟨g2, 0, none⟩ = false ∧ gt < (W.setCell ⟨g2, 0, none⟩ xv).heap.size ∧ g1 < (W.setCell ⟨g2, 0, none⟩ xv).heap.size ∧ g2 < (W.setCell ⟨g2, 0, none⟩ xv).heap.size)) := by
    show ∀ W xv, _
    rintro W xv ⟨k0, k1, k2, k3, k4, k5, ⟨z, k6⟩, k7, k8, k9, k10⟩
    exact ⟨(by rw [World.cell?_setCell_other _ _ _ _ (by intro e; simp only [Addr.mk.injEq] at e; have := HNE.out; omega)]; exact k0), (by rw [World.cell?_setCell_other _ _ _ _ (by intro e; simp only [Addr.mk.injEq] at e; have := HNE.out; omega)]; exact k1), (by rw [World.cell?_setCell_other _ _ _ _ (by intro e; simp only [Addr.mk.injEq] at e; have := HNE.out; omega)]; exact k2), (by rw [World.cell?_setCell_other _ _ _ _ (by intro e; simp only [Addr.mk.injEq] at e; have := HNE.out; omega)]; exact k3), (by rw [World.cell?_setCell_other _ _ _ _ (by intro e; simp only [Addr.mk.injEq] at e; have := HNE.out; omega)]; exact k4), (by rw [World.cell?_setCell_other _ _ _ _ (by intro e; simp only [Addr.mk.injEq] at e; have := HNE.out; omega)]; exact k5), ⟨xv, World.cell?_setCell_same _ _ _ k6⟩, (by rw [World.frozen?_setCell]; exact k7), (by rw [World.size_setCell]; exact k8), (by rw [World.size_setCell]; exact k9), (by rw [World.size_setCell]; exact k10)⟩
  clear q0 q1 q2 e2 f2 l0 l1 l2
  go_region_held3 (fun W => W.cell? ⟨gt, 0, none⟩ = some (.slice z.a z.n z.c) ∧ W.cell? ⟨gt, 1, none⟩ = some (.slice A n c) ∧ W.cell? ⟨gt, 2, none⟩ = some (.int .i64 t) ∧ W.cell? ⟨g1, 0, none⟩ = some (.int .i64 x.key) ∧ W.cell? ⟨g1, 1, none⟩ = some (.slice x.ca x.cn x.cc) ∧ W.cell? ⟨g1, 2, none⟩ = some (.slice x.ba x.bn x.bc) ∧ (∃ z, W.cell? ⟨g2, 0, none⟩ = some z) ∧ W.frozen? ⟨g2, 0, none⟩ = false ∧ gt < W.heap.size ∧ g1 < W.heap.size ∧ g2 < W.heap.size)
    (first
      | exact K.out _ _ hS0 ((Below.refl _ _).drew)
      | exact K.out _ _ hSx bb
      | exact K.out _ _ (by assumption) bb
      | exact K.out _ _ (by assumption) (below_new (Below.refl _ _) _)
      | exact K2.out _ _ (by assumption))
    (first
      | (go_at_call 38; refine (WI.out _ z (by first | exact B3.out.drew | exact B3.out) HZ.out).mono ?_; rintro e wx ⟨u, rfl, hu, bb⟩; have bx := below_then (Below.refl w3.heap.size w3).drew bb; have hSx := K.out _ _ hS0 bx)
      | (go_at_call 37; refine (HV.out _ z u w3.heap.size (below_then B3.out bx) bx.size hu).mono ?_; rintro e wy ⟨v, rfl, hv, hvn, bb⟩; have HVN := Lib.hid hvn; clear hvn; have by_ := below_then bx bb; have hSy := K.out _ _ hSx bb; obtain ⟨_, _, _, _, _, _, ⟨zz, hzz⟩, hff, _, _, _⟩ := hSy))
  all_goals
    have HVV := Lib.hid hv
    have BY := Lib.hid (below_then (below_then B1.out B3.out) by_)
    have hby2 := by_.size
    have hb3s := B3.out.size
    clear hv
    obtain ⟨hgl, hgh⟩ := HG2.out
    have hR := row_below (by first | exact R2.out) (below_then B3.out by_)
    go_wp2_with fail
    refine bodyPost_ret (v := .agg #[.slice v.a v.n v.c]) (results_cell_row rfl _ _ g2 27 _ (0, 0) _ rfl (set1row hR) Tryz.underlying27 rfl (by kernel_rfl)) rfl ?_
    have hlo := HW0.out.size
    refine ⟨v, rfl, fun U hU => HVV.out U ?_, ⟨HVN.out.1, fun a ha => Nat.le_trans (Nat.le_trans (B1.out.size) (B3.out.size)) (HVN.out.2 a ha)⟩, below_put BY.out _ _ _ hgl⟩
    exact (((Agree.refl w0.heap.size w3.heap.size wy).put g2 0 _ ⟨by omega, by omega⟩).trans (hU.mono (Nat.le_refl _) (by omega)))
set_option maxHeartbeats 3200000 in
theorem drop13_any (A : Option Addr) (n c : Nat) (b : List (List LQ)) (t : Int) (k : Int) (w0 w : World) (h : RdB w0 A n c b) (hw : Below w0.heap.size w0 w) (hb : BaseOk b) :
    Calls Tryz.prog 20 #[.agg #[.slice A n c], .int .i64 t, .int .i64 k] w fun e w' => ∃ z : SlR, e = .returned (.agg #[.slice z.a z.n z.c]) ∧ (∀ U, Agree w0.heap.size w.heap.size w' U → RdB U z.a z.n z.c (dropB13 b t k)) ∧ (z.n = n ∧ ∀ a, z.a = some a → w.heap.size ≤ a.block) ∧ Below w.heap.size w w' := by
  have hn : n ≤ 4294967296 := by have := h.len; have := hb.tabs; omega
  have hln := linesB_len hb t
  obtain ⟨w1, hw1⟩ : ∃ w1, w1 = ((w.alloc (baseBox A n c)).alloc (baseBox none 0 0)) := ⟨_, rfl⟩
  have HW := Lib.hid hw1
  have r0 : w1.heap[w.heap.size]? = some (baseBox A n c) := by rw [hw1]; exact old_row13 _ (new_row13 _ _ rfl)
  have r1 : w1.heap[w.heap.size + 1]? = some (baseBox none 0 0) := by rw [hw1]; exact new_row13 _ _ (by simp only [World.size_alloc])
  have b1 : Below w.heap.size w w1 := by rw [hw1]; exact below_new (below_new (Below.refl _ _) _) _
  have sz : w1.heap.size = w.heap.size + 1 + 1 := by rw [hw1]; simp only [World.size_alloc]
  have p0 := base_row r0
  have T := Lib.hid (tableOf_any A n c b t w0 w1 h (below_then hw b1))
  have HR := Lib.hid h; have HW0 := Lib.hid hw
  obtain ⟨ll, hll⟩ : ∃ ll, Hid (linesB b t = ll) := ⟨_, rfl⟩
  rw [hll.out] at T hln
  obtain ⟨bb2, hbb2⟩ : ∃ z, Hid (dropB13 b t k = z) := ⟨_, rfl⟩
  have hans : Hid (bb2 = setB b t (dropL ll k)) := by show _ = _; rw [← hbb2.out, ← hll.out]; rfl
  rw [hbb2.out]
  have B1 := Lib.hid b1
  have WI : Hid (∀ (W : World) (z : SlR), Below w1.heap.size w1 W → RdLs w0 z.a z.n z.c ll → Calls Tryz.prog 42 #[.slice z.a z.n z.c, .int .i64 k] W fun e w' => ∃ u : SlR, e = .returned (.slice u.a u.n u.c) ∧ (∀ U, Agree w0.heap.size W.heap.size w' U → RdLs U u.a u.n u.c (dropL ll k)) ∧ Below W.heap.size W w') := by
    show ∀ W z, _; intro W z hW hz
    exact without_any z.a z.n z.c ll k w0 W hz (below_then hw (below_then b1 hW)) (by have := hz.len; omega)
  have HV : Hid (∀ (W : World) (z m : SlR) (hi : Nat), Below w1.heap.size w1 W → hi ≤ W.heap.size → (∀ U, Agree w0.heap.size hi W U → RdLs U m.a m.n m.c (dropL ll k)) → Calls Tryz.prog 37 #[.agg #[.slice z.a z.n z.c, .slice A n c, .int .i64 t], .slice m.a m.n m.c] W fun e w' => ∃ u : SlR, e = .returned (.agg #[.slice u.a u.n u.c]) ∧ (∀ U, Agree w0.heap.size hi w' U → RdB U u.a u.n u.c bb2) ∧ (u.n = n ∧ ∀ a, u.a = some a → hi ≤ a.block) ∧ Below W.heap.size W w') := by
    show ∀ W z m hi, _; intro W z m hi hW hhi hm
    rw [hans.out]
    exact having_any z.a z.n z.c A n c t m b _ hi w0 W h (below_then hw (below_then b1 hW)) hhi hm hn
  have HSZ := Lib.hid sz
  have R0 := Lib.hid r0
  have R1 := Lib.hid r1
  clear h hw hb b1 sz hw1 hln hn r0 r1
  go_enter Tryz.func20, Tryz.ntmps20
  go_upto_region 1 with fail
  rw [show ((w.alloc (baseBox A n c)).alloc (baseBox none 0 0)) = w1 from HW.out.symm]
  clear HW
  go_upto_region 2 with (go_at_call 33; refine T.out.mono ?_; rintro e w2 ⟨z, rfl, hz, b2⟩)
  have HZ := Lib.hid hz
  obtain ⟨w3, hw3⟩ : ∃ w3, w3 = w2.alloc (tableBox z.a z.n z.c A n c t) := ⟨_, rfl⟩
  have r3 : w3.heap[w2.heap.size]? = some (tableBox z.a z.n z.c A n c t) := by rw [hw3]; exact heap_alloc_new _ _
  have b3 : Below w1.heap.size w1 w3 := by rw [hw3]; exact below_new b2 _
  rw [show w2.alloc (.cells #[.slice z.a z.n z.c, .slice A n c, .int .i64 t] 83) = w3 from hw3.symm]
  have hsz2 : w1.heap.size ≤ w2.heap.size := b2.size
  clear hw3 b2 hz T p0
  have B3 := Lib.hid b3
  obtain ⟨q0, q1, q2⟩ := table_row r3
  have hq := row_lt r3
  have hr2 := row_below R1.out b3
  have e2 := base_row hr2
  have f2 := frozen_row hr2
  have hg2l := row_lt hr2
  have HG2 : Hid (w.heap.size ≤ w.heap.size + 1 ∧ w.heap.size + 1 < w1.heap.size) := by have := HSZ.out; show _ ∧ _; omega
  generalize hg1 : w.heap.size + 1 = g1 at R1 hr2 e2 f2 hg2l HG2 ⊢
  generalize hgt : w2.heap.size = gt at q0 q1 q2 hq ⊢
  have HNE : Hid (gt ≠ g1) := by have h1 := HSZ.out; have h2 := HG2.out; show _ ≠ _; omega
  clear hg1 hgt hr2 r3 b3
  have hS0 : w3.cell? ⟨gt, 0, none⟩ = some (.slice z.a z.n z.c) ∧ w3.cell? ⟨gt, 1, none⟩ = some (.slice A n c) ∧ w3.cell? ⟨gt, 2, none⟩ = some (.int .i64 t) ∧ (∃ z, w3.cell? ⟨g1, 0, none⟩ = some z) ∧ w3.frozen? ⟨g1, 0, none⟩ = false ∧ gt < w3.heap.size ∧ g1 < w3.heap.size := ⟨q0, q1, q2, ⟨_, e2⟩, f2 0, hq, hg2l⟩
  have K : Hid (∀ W W' : World, (W.cell? ⟨gt, 0, none⟩ = some (.slice z.a z.n z.c) ∧ W.cell? ⟨gt, 1, none⟩ = some (.slice A n c) ∧ W.cell? ⟨gt, 2, none⟩ = some (.int .i64 t) ∧ (∃ z, W.cell? ⟨g1, 0, none⟩ = some z) ∧ W.frozen? ⟨g1, 0, none⟩ = false ∧ gt < W.heap.size ∧ g1 < W.heap.size) → Below W.heap.size W W' → (W'.cell? ⟨gt, 0, none⟩ = some (.slice z.a z.n z.c) ∧ W'.cell? ⟨gt, 1, none⟩ = some (.slice A n c) ∧ W'.cell? ⟨gt, 2, none⟩ = some (.int .i64 t) ∧ (∃ z, W'.cell? ⟨g1, 0, none⟩ = some z) ∧ W'.frozen? ⟨g1, 0, none⟩ = false ∧ gt < W'.heap.size ∧ g1 < W'.heap.size)) := by
    show ∀ W W', _
    rintro W W' ⟨k0, k1, k2, ⟨z, k3⟩, k4, k5, k6⟩ hb
    exact ⟨(hb.cell (p := ⟨gt, 0, none⟩) k5).trans k0, (hb.cell (p := ⟨gt, 1, none⟩) k5).trans k1, (hb.cell (p := ⟨gt, 2, none⟩) k5).trans k2, ⟨z, (hb.cell (p := ⟨g1, 0, none⟩) k6).trans k3⟩, (by simp only [World.frozen?, hb.block g1 k6] at k4 ⊢; exact k4), Nat.lt_of_lt_of_le k5 hb.size, Nat.lt_of_lt_of_le k6 hb.size⟩
  have K2 : Hid (∀ (W : World) (xv : Value), (W.cell? ⟨gt, 0, none⟩ = some (.slice z.a z.n z.c) ∧ W.cell? ⟨gt, 1, none⟩ = some (.slice A n c) ∧ W.cell? ⟨gt, 2, none⟩ = some (.int .i64 t) ∧ (∃ z, W.cell? ⟨g1, 0, none⟩ = some z) ∧ W.frozen? ⟨g1, 0, none⟩ = false ∧ gt < W.heap.size ∧ g1 < W.heap.size) → ((W.setCell ⟨g1, 0, none⟩ xv).cell? ⟨gt, 0, none⟩ = some (.slice z.a z.n z.c) ∧ (W.setCell ⟨g1, 0, none⟩ xv).cell? ⟨gt, 1, none⟩ = some (.slice A n c) ∧ (W.setCell ⟨g1, 0, none⟩ xv).cell? ⟨gt, 2, none⟩ = some (.int .i64 t) ∧ (∃ z, (W.setCell ⟨g1, 0, none⟩ xv).cell? ⟨g1, 0, none⟩ = some z) ∧ (W.setCell ⟨g1, 0, none⟩ xv).frozen? ⟨g1, 0, none⟩ = false ∧ gt < (W.setCell ⟨g1, 0, none⟩ xv).heap.size ∧ g1 < (W.setCell ⟨g1, 0, none⟩ xv).heap.size)) := by
    show ∀ W xv, _
    rintro W xv ⟨k0, k1, k2, ⟨z, k3⟩, k4, k5, k6⟩
    exact ⟨(by rw [World.cell?_setCell_other _ _ _ _ (by intro e; simp only [Addr.mk.injEq] at e; have := HNE.out; omega)]; exact k0), (by rw [World.cell?_setCell_other _ _ _ _ (by intro e; simp only [Addr.mk.injEq] at e; have := HNE.out; omega)]; exact k1), (by rw [World.cell?_setCell_other _ _ _ _ (by intro e; simp only [Addr.mk.injEq] at e; have := HNE.out; omega)]; exact k2), ⟨xv, World.cell?_setCell_same _ _ _ k3⟩, (by rw [World.frozen?_setCell]; exact k4), (by rw [World.size_setCell]; exact k5), (by rw [World.size_setCell]; exact k6)⟩
  clear q0 q1 q2 e2 f2
  go_region_held3 (fun W => W.cell? ⟨gt, 0, none⟩ = some (.slice z.a z.n z.c) ∧ W.cell? ⟨gt, 1, none⟩ = some (.slice A n c) ∧ W.cell? ⟨gt, 2, none⟩ = some (.int .i64 t) ∧ (∃ z, W.cell? ⟨g1, 0, none⟩ = some z) ∧ W.frozen? ⟨g1, 0, none⟩ = false ∧ gt < W.heap.size ∧ g1 < W.heap.size)
    (first
      | exact K.out _ _ hS0 ((Below.refl _ _).drew)
      | exact K.out _ _ hSx bb
      | exact K.out _ _ (by assumption) bb
      | exact K.out _ _ (by assumption) (below_new (Below.refl _ _) _)
      | exact K2.out _ _ (by assumption))
    (first
      | (go_at_call 42; refine (WI.out _ z (by first | exact B3.out.drew | exact B3.out) HZ.out).mono ?_; rintro e wx ⟨u, rfl, hu, bb⟩; have bx := below_then (Below.refl w3.heap.size w3).drew bb; have hSx := K.out _ _ hS0 bx)
      | (go_at_call 37; refine (HV.out _ z u w3.heap.size (below_then B3.out bx) bx.size hu).mono ?_; rintro e wy ⟨v, rfl, hv, hvn, bb⟩; have HVN := Lib.hid hvn; clear hvn; have by_ := below_then bx bb; have hSy := K.out _ _ hSx bb; obtain ⟨_, _, _, ⟨zz, hzz⟩, hff, _, _⟩ := hSy))
  all_goals
    have HVV := Lib.hid hv
    have BY := Lib.hid (below_then (below_then B1.out B3.out) by_)
    have hby2 := by_.size
    have hb3s := B3.out.size
    clear hv
    obtain ⟨hgl, hgh⟩ := HG2.out
    have hR := row_below (by first | exact R1.out) (below_then B3.out by_)
    go_wp2_with fail
    refine bodyPost_ret (v := .agg #[.slice v.a v.n v.c]) (results_cell_row rfl _ _ g1 27 _ (0, 0) _ rfl (set1row hR) Tryz.underlying27 rfl (by kernel_rfl)) rfl ?_
    have hlo := HW0.out.size
    refine ⟨v, rfl, fun U hU => HVV.out U ?_, ⟨HVN.out.1, fun a ha => Nat.le_trans (Nat.le_trans (B1.out.size) (B3.out.size)) (HVN.out.2 a ha)⟩, below_put BY.out _ _ _ hgl⟩
    exact (((Agree.refl w0.heap.size w3.heap.size wy).put g1 0 _ ⟨by omega, by omega⟩).trans (hU.mono (Nat.le_refl _) (by omega)))
end Go.Proofs.YtfljhnalmiibeaaGreat

namespace Go.Proofs.YtfljhnalmiibeaaGreat
set_option maxRecDepth 100000
open Go.RowKit Srt
theorem take_eq_next {α : Type} {a b : List α} {k : Nat} {x : α} (h : a.take k = b.take k) (ha : a[k]? = some x) (hb : b[k]? = some x) : a.take (k + 1) = b.take (k + 1) := by
  rw [List.take_add_one, List.take_add_one, ha, hb, h]
set_option maxHeartbeats 3200000 in
theorem refSame7_any (ka : Int) (va : V3) (A : Option Addr) (n c : Nat) (la : List P11) (kb : Int) (vb : V3) (B : Option Addr) (m d : Nat) (lb : List P11) (w : World) (ha : RdP w A n c la) (hb : RdP w B m d lb) :
    Calls Tryz.prog 43 #[cellV ka va (.slice A n c), cellV kb vb (.slice B m d)] w fun e w' => e = .returned (.bool (decide (ka = kb) && decide (va = vb) && decide (la = lb))) ∧ Below w.heap.size w w' := by
  obtain ⟨w1, hw1⟩ : ∃ w1, w1 = (w.alloc (cellRow ka va (.slice A n c))).alloc (cellRow kb vb (.slice B m d)) := ⟨_, rfl⟩
  have hb1 : Below w.heap.size w w1 := by rw [hw1]; exact below_new (below_new (Below.refl _ _) _) _
  have h4 : w1.heap[w.heap.size]? = some (cellRow ka va (.slice A n c)) := by rw [hw1, Below.heap_alloc _ _ _ (by simp)]; exact heap_alloc_new _ _
  have h5 : w1.heap[w.heap.size + 1]? = some (cellRow kb vb (.slice B m d)) := by
    have := heap_alloc_new (w.alloc (cellRow ka va (.slice A n c))) (cellRow kb vb (.slice B m d))
    rw [World.size_alloc] at this
    rw [hw1]; exact this
  obtain ⟨c0, c1, c2, c3, c4⟩ := cell_row5 h4
  obtain ⟨d0, d1, d2, d3, d4⟩ := cell_row5 h5
  have HA := Lib.hid (ha.below hb1)
  have HB := Lib.hid (hb.below hb1)
  have HLA := Lib.hid ha.len
  have HLB := Lib.hid hb.len
  have hle := ha.le
  have hle2 := hb.le
  have HB1 := Lib.hid hb1
  have EV : ∀ W, (Op.equalIn 10000 68 (.agg #[.int .i64 va.k, .int .i64 va.n, .string va.s]) (.agg #[.int .i64 vb.k, .int .i64 vb.n, .string vb.s])).run Tryz.prog W = .ok (decide (va = vb)) W := fun W => run_equalIn_valF 9998 va vb W
  clear ha hb hb1 h4 h5
  by_cases hk : ka = kb
  rotate_left
  · have hkb : (ka == kb) = false := by simpa using hk
    have HF : Hid (false = (decide (ka = kb) && decide (va = vb) && decide (la = lb))) := by show _ = _; simp [hk]
    go_enter Tryz.func43, Tryz.ntmps43
    go_wp2
    go_ret
    exact ⟨ret_bool HF.out, by rw [← hw1]; exact HB1.out⟩
  subst hk
  by_cases hv : va = vb
  rotate_left
  · rw [decide_eq_false hv] at EV
    have HF : Hid (false = (decide (ka = ka) && decide (va = vb) && decide (la = lb))) := by show _ = _; simp [hv]
    clear hv
    go_enter Tryz.func43, Tryz.ntmps43
    go_wp2
    go_ret
    exact ⟨ret_bool HF.out, by rw [← hw1]; exact HB1.out⟩
  rw [decide_eq_true hv] at EV
  have HR : Hid ((decide (ka = ka) && decide (va = vb) && decide (la = lb)) = decide (la = lb)) := by show _ = _; simp [hv]
  rw [HR.out]
  clear hv HR
  by_cases hnm : n = m
  rotate_left
  · have hnb : ((n : Int) == (m : Int)) = false := by rw [beq_eq_false_iff_ne]; omega
    have HF : Hid (false = decide (la = lb)) := by
      show _ = _
      symm
      refine decide_eq_false fun e => hnm ?_
      rw [← HLA.out, ← HLB.out, e]
    have hnz : ¬ ((n : Int) = (m : Int)) := by omega
    clear hnm
    go_enter Tryz.func43, Tryz.ntmps43
    go_wp2
    go_ret
    exact ⟨ret_bool HF.out, by rw [← hw1]; exact HB1.out⟩
  subst hnm
  go_enter Tryz.func43, Tryz.ntmps43
  go_wp2_with fail
  rw [← hw1]
  clear hw1 EV
  go_loopw [5] (fun i wr => ∃ k : Nat, k ≤ n ∧ i = .int .i64 k ∧ Hid (la.take k = lb.take k) ∧ Quiet w1 wr) (fun i _ => n - (intOf i).toNat)
  case atStart => exact ⟨0, Nat.zero_le _, rfl, by show _ = _; simp, Quiet.refl _⟩
  case round =>
    obtain ⟨k, hk, rfl, hno, hq⟩ := hrel
    obtain ⟨dn, rfl⟩ := hq
    by_cases hlt : k < n
    · obtain ⟨b, o, x, rfl, _, hx, hcu⟩ := HA.out.part hlt
      obtain ⟨b', o', y, rfl, _, hy, hcv⟩ := HB.out.part hlt
      obtain ⟨x0, x1, x2, x3, x4, x5, x6, x7, x8, x9, x10⟩ := hcu w1 (Below.refl _ _)
      obtain ⟨y0, y1, y2, y3, y4, y5, y6, y7, y8, y9, y10⟩ := hcv w1 (Below.refl _ _)
      have HX := Lib.hid hx; have HY := Lib.hid hy
      have EQ : ∀ W, (Op.equalIn 10000 105 (.agg #[.int .i64 x.v.k, .int .i64 x.v.n, .string x.v.s, .int .i64 x.d.d, .int .i64 x.d.s, .int .i64 x.i, .int .i64 x.t, .int .i64 x.a.d, .int .i64 x.a.s, .int .i64 x.j, .bool x.g]) (.agg #[.int .i64 y.v.k, .int .i64 y.v.n, .string y.v.s, .int .i64 y.d.d, .int .i64 y.d.s, .int .i64 y.i, .int .i64 y.t, .int .i64 y.a.d, .int .i64 y.a.s, .int .i64 y.j, .bool y.g])).run Tryz.prog W = .ok (decide (x = y)) W := fun W => run_equalIn_part x y W
      clear hcu hx hcv hy
      by_cases he : x = y
      · rw [decide_eq_true he] at EQ
        have HN := Lib.hid (take_eq_next hno.out HX.out (by rw [he]; exact HY.out))
        clear he
        go_wp2
        go_quiet (fail)
        go_wp2
        exact ⟨⟨k + 1, by omega, by go_num, HN, by first | exact Quiet.add _ _ | exact Quiet.add2 _ _ _⟩, by simp [intOf]; omega⟩
      · rw [decide_eq_false he] at EQ
        have HF : Hid (false = decide (la = lb)) := by
          show _ = _
          symm
          refine decide_eq_false fun e => he ?_
          have h1 := HX.out; have h2 := HY.out
          rw [e, h2] at h1
          exact (Option.some.inj h1).symm
        clear he
        go_wp2
        go_quiet (fail)
        go_wp2
        go_ret
        exact ⟨ret_bool HF.out, below_quiet HB1.out (by first | exact Quiet.add _ _ | exact Quiet.add2 _ _ _)⟩
    · have HF : Hid (true = decide (la = lb)) := by
        show _ = _
        symm
        refine decide_eq_true ?_
        have h1 := HLA.out
        have h2 := HLB.out
        have h3 := hno.out
        rwa [List.take_of_length_le (by omega), List.take_of_length_le (by omega)] at h3
      go_wp2
      go_ret
      exact ⟨ret_bool HF.out, below_quiet HB1.out (Quiet.add _ _)⟩
end Go.Proofs.YtfljhnalmiibeaaGreat

namespace Go.Proofs.YtfljhnalmiibeaaGreat
set_option maxRecDepth 100000
open Go.RowKit Srt
set_option maxHeartbeats 800000 in
theorem right_free (k n : Int) (s : ByteArray) (w : World) :
    Calls Tryz.prog 128 #[.agg #[.int .i64 k, .int .i64 n, .string s]] w fun e w' => e = .returned (.bool (rightZ k n s.size)) ∧ Below w.heap.size w w' := by
  go_enter Tryz.func128, Tryz.ntmps128
  go_wp2
  all_goals go_ret
  all_goals refine ⟨?_, by first | exact (Below.refl _ _).alloc (Nat.le_refl _) _ | exact below_drewN ((Below.refl _ _).alloc (Nat.le_refl _) _) _⟩
  all_goals try simp only [iem]
  all_goals rcases Decidable.em (-1099511627776 ≤ n) with hlo | hlo <;> rcases Decidable.em (n ≤ 1099511627776) with hhi | hhi
  all_goals
    by_cases hz : s = ByteArray.empty
    · subst hz
      simp_all [rightZ]
      try omega
    · have hz1 : (s.size == 0) = false := by simpa using fun h => hz (size_zero h)
      have hz4 : ¬ s.toList = [] := fun h => hz (size_zero (by have := iem s; rw [h] at this; simpa using this.symm))
      have hz3 : ¬ s.size = 0 := fun h => hz (size_zero h)
      simp_all [rightZ]
      try omega
theorem right_val (v : V3) (w : World) :
    Calls Tryz.prog 128 #[.agg #[.int .i64 v.k, .int .i64 v.n, .string v.s]] w fun e w' => e = .returned (.bool v.right) ∧ Below w.heap.size w w' :=
  right_free v.k v.n v.s w
set_option maxHeartbeats 1600000 in
theorem rightPart_any (p : P11) (w : World) :
    Calls Tryz.prog 158 #[p.agg] w fun e w' => e = .returned (.bool (okP p)) ∧ Below w.heap.size w w' := by
  have h0 : (w.alloc (partCells p)).heap[w.heap.size]? = some (partCells p) := heap_alloc_new _ _
  obtain ⟨x0, x1, x2, x3, x4, x5, x6, x7, x8, x9, x10⟩ := part_row h0
  have B := Lib.hid (below_new (Below.refl w.heap.size w) (partCells p))
  have EQ : ∀ W, (Op.equalIn 10000 105 (.agg #[.int .i64 p.v.k, .int .i64 p.v.n, .string p.v.s, .int .i64 p.d.d, .int .i64 p.d.s, .int .i64 p.i, .int .i64 p.t, .int .i64 p.a.d, .int .i64 p.a.s, .int .i64 p.j, .bool p.g])
      (.agg #[.int .i64 p.v.k, .int .i64 p.v.n, .string p.v.s, .int .i64 p.d.d, .int .i64 p.d.s, .int .i64 0, .int .i64 0, .int .i64 0, .int .i64 0, .int .i64 0, .bool false])).run Tryz.prog W = .ok (decide (p = part0 p.v p.d)) W := fun W => run_equalIn_part p (part0 p.v p.d) W
  obtain ⟨r, hr, C⟩ : ∃ r, Hid (p.v.right = r) ∧ Hid (Calls Tryz.prog 128 #[.agg #[.int .i64 p.v.k, .int .i64 p.v.n, .string p.v.s]] (w.alloc (partCells p)) fun e w' => e = .returned (.bool r) ∧ Below (w.alloc (partCells p)).heap.size (w.alloc (partCells p)) w') := ⟨_, rfl, right_val p.v _⟩
  have K := Lib.hid (fun W (b : Below (w.alloc (partCells p)).heap.size (w.alloc (partCells p)) W) => part_row (row_below h0 b))
  clear h0
  go_enter Tryz.func158, Tryz.ntmps158
  go_wp2_with fail
  all_goals first
    | (refine C.out.mono ?_
       rintro e w3 ⟨rfl, b3⟩
       obtain ⟨x0, x1, x2, x3, x4, x5, x6, x7, x8, x9, x10⟩ := K.out w3 b3
       have B3 := Lib.hid (below_then B.out b3)
       cases r
       all_goals go_wp2_with fail
       all_goals go_ret
       all_goals exact ⟨ret_bool (by simp [okP, hr.out, *]), B3.out⟩)
    | (go_ret
       exact ⟨ret_bool (by simp [okP, *] <;> (intros; omega)), B.out⟩)
theorem rightC_no {k : Int} {v : V3} {l : List P11} (h : ¬ RightL l) : false = rightC k v l := by
  simp [rightC, h]
end Go.Proofs.YtfljhnalmiibeaaGreat

namespace Go.Proofs.YtfljhnalmiibeaaGreat
set_option maxRecDepth 100000
open Go.RowKit Srt
theorem cmpD_above (a b : D2) : aboveD a b = !decide (0 ≤ cmpD b a) := by
  rw [← cmpD_lt b a]
  by_cases h : 0 ≤ cmpD b a <;> simp [h] <;> omega
end Go.Proofs.YtfljhnalmiibeaaGreat

namespace Go.Proofs.YtfljhnalmiibeaaGreat
set_option maxRecDepth 100000
/-- what an operation yields that looks at no world -/
def pureOf (a : Act) (o : Oper) : Option Value :=
  match o.op with
  | .move x => some (a.eval x)
  | .assign x => some (a.eval x)
  | .pick c x y =>
    match a.eval c with
    | .bool true => some (a.eval x)
    | .bool false => some (a.eval y)
    | _ => none
  | _ => none
/-- may these come up in this order -/
def tailOk (md : Region.Mode) (ops : Array Oper) : List Nat → Array Bool → Bool
  | [], _ => true
  | i :: is, listed => Region.free md ops listed i && (Region.ready md ops listed).contains i && tailOk md ops is (listed.setIfInBounds i true)
def tailMarks : List Nat → Array Bool → Array Bool
  | [], listed => listed
  | i :: is, listed => tailMarks is (listed.setIfInBounds i true)
/-- what they leave -/
def tailRun (ops : Array Oper) : List Nat → Act → Option Act
  | [], a => some a
  | i :: is, a =>
    match ops[i]? with
    | none => none
    | some o =>
      match Region.wanted o (yielded ops a.tmps) with
      | true =>
        match pureOf a o with
        | some v => tailRun ops is (a.put o.dst v)
        | none => none
      | false => tailRun ops is (a.put o.dst undef)
theorem pureOf_run {P : Program} {w : World} {a : Act} {o : Oper} {v : Value} (h : pureOf a o = some v) : (execOp a.eval o).run P w = .ok (.value v) w := by
  unfold pureOf at h
  split at h
  · rename_i x ho
    injection h with h; subst h
    simp [execOp, ho]
  · rename_i x ho
    injection h with h; subst h
    simp [execOp, ho]
  · rename_i c x y ho
    split at h
    · rename_i hc
      injection h with h; subst h
      simp [execOp, ho, hc, asBool]
    · rename_i hc
      injection h with h; subst h
      simp [execOp, ho, hc, asBool]
    · cases h
  · cases h
theorem wpAnyH_takes {P : Program} {md : Region.Mode} {ops : Array Oper} {Q : Exit → Act → World → Prop} {S : World → Prop} {w : World} (hs : Region.noSelect ops = true) (hQ : ∀ o v c a w, Q (.panic c) (a.put o v) w → Q (.panic c) a w) (hS : S w) :
    ∀ (is : List Nat) (fuel : Nat) (listed : Array Bool) (a a' : Act), tailOk md ops is listed = true → tailRun ops is a = some a' → wpAnyH P md ops Q S fuel (tailMarks is listed) a' w → wpAnyH P md ops Q S (fuel + is.length) listed a w
  | [], fuel, listed, a, a', _, hrun, hq => by
    simp only [tailRun, Option.some.injEq] at hrun
    subst hrun
    exact hq
  | i :: is, fuel, listed, a, a', hok, hrun, hq => by
    simp only [tailOk, Bool.and_eq_true] at hok
    obtain ⟨⟨h1, h2⟩, h3⟩ := hok
    rw [tailRun] at hrun
    rw [List.length_cons, ← Nat.add_assoc]
    split at hrun
    · cases hrun
    · rename_i o ho
      split at hrun
      · rename_i hw
        split at hrun
        · rename_i v hv
          exact wpAnyH_take ho hs h1 h2 (fun c a w => hQ o.dst v c a w) (.inl ⟨hw, fun w _ => pureOf_run hv⟩) hS (wpAnyH_takes hs hQ hS is fuel _ _ a' h3 hrun hq)
        · cases hrun
      · rename_i hw
        exact wpAnyH_take ho hs h1 h2 (fun c a w => hQ o.dst undef c a w) (.inr ⟨hw, rfl⟩) hS (wpAnyH_takes hs hQ hS is fuel _ _ a' h3 hrun hq)
def putsOf : List (Option Tmp × Value) → Act → Act
  | [], a => a
  | (d, v) :: ps, a => putsOf ps (a.put d v)
theorem wpAnyH_puts {P : Program} {md : Region.Mode} {ops : Array Oper} {Q : Exit → Act → World → Prop} {S : World → Prop} {w : World} {listed : Array Bool} {a : Act} (hs : Region.noSelect ops = true) (hQ : ∀ o v c a w, Q (.panic c) (a.put o v) w → Q (.panic c) a w) (hS : S w)
    (is : List Nat) (fuel : Nat) (ps : List (Option Tmp × Value)) (hok : tailOk md ops is listed = true) (hrun : tailRun ops is a = some (putsOf ps a)) (hq : wpAnyH P md ops Q S fuel (tailMarks is listed) (putsOf ps a) w) : wpAnyH P md ops Q S (fuel + is.length) listed a w :=
  wpAnyH_takes hs hQ hS is fuel listed a _ hok hrun hq
/-- one operation more, of which it is known what it yields -/
theorem wpAnyH_one {P : Program} {md : Region.Mode} {ops : Array Oper} {Q : Exit → Act → World → Prop} {S : World → Prop} {w : World} {listed : Array Bool} {a : Act} (hs : Region.noSelect ops = true) (hQ : ∀ o v c a w, Q (.panic c) (a.put o v) w → Q (.panic c) a w) (hS : S w)
    (i fuel : Nat) (d : Option Tmp) (v : Value) (o : Oper) (ho : ops[i]? = some o) (hd : o.dst = d) (hok : tailOk md ops [i] listed = true) (hw : Region.wanted o (yielded ops a.tmps) = true) (hv : ∀ w, S w → (execOp a.eval o).run P w = .ok (.value v) w)
    (hq : wpAnyH P md ops Q S fuel (listed.setIfInBounds i true) (a.put d v) w) : wpAnyH P md ops Q S (fuel + 1) listed a w := by
  subst hd
  simp only [tailOk, Bool.and_eq_true] at hok
  exact wpAnyH_take ho hs hok.1.1 hok.1.2 (fun c a w => hQ o.dst v c a w) (.inl ⟨hw, hv⟩) hS hq
end Go.Proofs.YtfljhnalmiibeaaGreat

