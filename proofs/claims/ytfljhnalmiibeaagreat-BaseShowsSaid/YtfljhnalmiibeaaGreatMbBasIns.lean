/- Layer 13: slices.Insert at dots: one dot, into a row of the call's own. -/
import Derived.Test.YtfljhnalmiibeaaGreatMbMulCmp
namespace Go.Proofs.YtfljhnalmiibeaaGreat
set_option maxRecDepth 100000
open Go.RowKit
/-- one block alone is written -/
def Only13 (g : Nat) (w w' : World) : Prop := Below g w w' ∧ ∀ k, k ≠ g → w'.heap[k]? = w.heap[k]?
theorem run_fromPD {g o n c i : Nat} {z : Int} (hz : z = (i : Int)) (h1 : i ≤ n) (hc : i < c) (W : World) : (Instr.slice 35 (.slice (some ⟨g, o, none⟩) n c) (some (.int .i64 z)) none none).run Tryz.prog W =
    .ok (.slice (some ⟨g, o + i * 2, none⟩) (n - i) (c - i)) W := by
  subst hz
  have hz : (sizeOf (Tryz.prog.elem 35)).run Tryz.prog W = .ok 2 W := by kernel_rfl
  have ht : Tryz.prog.underlying 35 = some (.slice (Tryz.prog.elem 35)) := by kernel_rfl
  rw [run_slice_l (P := Tryz.prog) (w := W) (t := 35) (a := some ⟨g, o, none⟩) (len := n) (cap := c) (ht := ht) (kl := .i64) (l := i) (h0 := by omega) (h1 := by omega), hz]
  have hne : ¬ c = i := by omega
  simp [Result.andThen, sliced, Addr.add_lit, hne]
theorem run_uptoPD {A : Option Addr} {n c m : Nat} {z : Int} (hz : z = (m : Int)) (h : m ≤ c) (W : World) : (Instr.slice 35 (.slice A n c) none (some (.int .i64 z)) none).run Tryz.prog W = .ok (.slice A m c) W := by
  subst hz
  have hz : (sizeOf (Tryz.prog.elem 35)).run Tryz.prog W = .ok 2 W := by kernel_rfl
  have ht : Tryz.prog.underlying 35 = some (.slice (Tryz.prog.elem 35)) := by kernel_rfl
  rw [run_slice_h (P := Tryz.prog) (w := W) (t := 35) (a := A) (len := n) (cap := c) (ht := ht) (kh := .i64) (h := m) (h0 := by omega) (h2 := by omega), hz]
  have ha : A.map (·.add (0 * 2)) = A := by cases A <;> simp [Addr.add]
  simp only [Result.andThen, sliced, ha, Int.toNat_natCast, Nat.sub_zero, ite_self]
theorem Tryz.sizeD : (Tryz.prog.info? 40).map (·.size) = some 2 := by kernel_rfl
theorem part_srcD {w : World} {g : Nat} {x : D2} (h : w.heap[g]? = some (dotBox x)) : ∀ j v, (D2.cells x)[j]? = some v → w.cell? ((⟨g, 0, none⟩ : Addr).add j) = some v := by
  intro j v hv
  rw [Addr.add_lit, Nat.zero_add, cell_row h]
  rw [← hv]
  simp [D2.cells]
set_option maxHeartbeats 4000000 in
theorem insert_shiftD (g n c i gv : Nat) (l : List D2) (cur : List Value) (x : D2) (w : World) (hi : i < n) (hroom : n + 1 ≤ c) (hc : c ≤ maxLen) (hl : l.length = n)
    (hg : w.heap[g]? = some (.cells cur.toArray 40 (0, 0))) (hcur : cur.length = c * 2) (htake : cur.take (n * 2) = l.flatMap D2.cells) (hx : w.heap[gv]? = some (dotBox x)) (hne : gv ≠ g) :
    Calls Tryz.prog 48 #[.slice (some ⟨g, 0, none⟩) n c, .int .i64 i, .slice (some ⟨gv, 0, none⟩) 1 1] w fun e w' =>
      e = .returned (.slice (some ⟨g, 0, none⟩) (n + 1) c) ∧ ∃ Z : List Value, w'.heap[g]? = some (.cells Z.toArray 40 (0, 0)) ∧ Z.length = c * 2 ∧ Z.take ((n + 1) * 2) = (l.take i ++ x :: l.drop i).flatMap D2.cells ∧ Only13 g w w' ∧ w'.heap.size = w.heap.size := by
  obtain ⟨B, hB⟩ : ∃ B, B = (l.drop i).flatMap D2.cells := ⟨_, rfl⟩
  have hBl : B.length = (n - i) * 2 := by rw [hB, flat_len d2len, List.length_drop, hl]
  have hAl : ((l.take i).flatMap D2.cells).length = i * 2 := by rw [flat_len d2len, List.length_take, hl]; omega
  have hAB : l.flatMap D2.cells = (l.take i).flatMap D2.cells ++ B := by rw [hB, ← List.flatMap_append, List.take_append_drop]
  obtain ⟨R, hR⟩ : ∃ R, cur = (l.take i).flatMap D2.cells ++ B ++ R := ⟨cur.drop (n * 2), by rw [← hAB, ← htake, List.take_append_drop]⟩
  have hRl : 2 ≤ R.length := by
    have := congrArg List.length hR
    rw [hcur, List.length_append, List.length_append, hAl, hBl] at this
    omega
  have hsrcB : ∀ j v, B[j]? = some v → w.cell? ((⟨g, i * 2, none⟩ : Addr).add j) = some v := by
    intro j v hv
    rw [Addr.add_lit, cell_row hg, List.getElem?_toArray, hR, List.append_assoc, List.getElem?_append_right (by rw [hAl]; omega), hAl, Nat.add_sub_cancel_left, List.getElem?_append_left (List.getElem?_eq_some_iff.1 hv).1, hv]
  have hB1 : ∀ v ∈ B, v.oneCell' = true := by
    intro v hv
    rw [hB, List.mem_flatMap] at hv
    obtain ⟨p, _, hp⟩ := hv
    exact d2one p v hp
  obtain ⟨Z1, hZ1⟩ : ∃ Z1, Z1 = splice cur ((i + 1) * 2) B := ⟨_, rfl⟩
  have hZ1l : Z1.length = c * 2 := by rw [hZ1, length_splice _ _ _ (by rw [hBl, hcur]; omega), hcur]
  obtain ⟨Z, hZ⟩ : ∃ Z, Z = splice Z1 (i * 2) (D2.cells x) := ⟨_, rfl⟩
  have hZl : Z.length = c * 2 := by rw [hZ, length_splice _ _ _ (by rw [d2len, hZ1l]; omega), hZ1l]
  have hZt : Z.take ((n + 1) * 2) = (l.take i ++ x :: l.drop i).flatMap D2.cells := by
    have e := splice_ins ((l.take i).flatMap D2.cells) B R (D2.cells x) 2 (d2len x) hRl
    rw [hAl, show i * 2 + 2 = (i + 1) * 2 by omega, ← hR, ← hZ1, ← hZ] at e
    rw [e, List.take_left' (by simp only [List.length_append]; rw [hAl, hBl, d2len]; omega), hB]
    simp
  have hcp1 : ∀ ty dc sc, (Builtin.copy_ #[35, 35] ty #[.slice (some ⟨g, (i + 1) * 2, none⟩) (n + 1 - (i + 1)) dc, .slice (some ⟨g, i * 2, none⟩) (n + 1 - i) sc]).run Tryz.prog w.drew = .ok (goInt (n - i : Nat)) (w.drew.setRow g Z1.toArray) := fun ty dc sc => by
    rw [hZ1]
    exact run_copyK w.drew _ _ ty 40 2 g ((i + 1) * 2) _ dc ⟨g, i * 2, none⟩ _ sc cur 40 B (n - i) Tryz.underlying35 Tryz.sizeD hg (by simp only [Nat.min_def]; split <;> omega) hBl hsrcB (by rw [hBl, hcur]; omega) hB1
  obtain ⟨W1, hW1⟩ : ∃ W1, W1 = w.drew.setRow g Z1.toArray := ⟨_, rfl⟩
  have hg1 : W1.heap[g]? = some (.cells Z1.toArray 40 (0, 0)) := by rw [hW1]; exact setRow_of Z1 (w := w.drew) hg
  have hx1 : W1.heap[gv]? = some (dotBox x) := by rw [hW1, setRow_other w.drew g gv _ hne]; exact hx
  have hcp2 : ∀ ty dc, (Builtin.copy_ #[35, 35] ty #[.slice (some ⟨g, i * 2, none⟩) (n + 1 - i) dc, .slice (some ⟨gv, 0, none⟩) 1 1]).run Tryz.prog W1 = .ok (goInt (1 : Nat)) (W1.setRow g Z.toArray) := fun ty dc => by
    rw [hZ]
    exact run_copyK W1 _ _ ty 40 2 g (i * 2) _ dc ⟨gv, 0, none⟩ 1 1 Z1 40 (D2.cells x) 1 Tryz.underlying35 Tryz.sizeD hg1 (by simp only [Nat.min_def]; split <;> omega) (d2len x) (part_srcD hx1) (by rw [d2len, hZ1l]; omega) (d2one x)
  have hg2 : (W1.setRow g Z.toArray).heap[g]? = some (.cells Z.toArray 40 (0, 0)) := setRow_of Z hg1
  have hbel : Below g w (W1.setRow g Z.toArray) := by rw [hW1]; exact below_setRow (below_setRow ((Below.refl g w).drew) (Nat.le_refl _) _) (Nat.le_refl _) _
  replace hbel : Only13 g w (W1.setRow g Z.toArray) := ⟨hbel, fun k hk => (setRow_other W1 g k _ hk).trans (by rw [hW1]; exact setRow_other w.drew g k _ hk)⟩
  have hsz : (W1.setRow g Z.toArray).heap.size = w.heap.size := by rw [hW1]; simp [World.setRow]
  have hov : ∀ lb cb, (callFunc 74 #[.slice (some ⟨gv, 0, none⟩) 1 1, .slice (some ⟨g, (i + 1) * 2, none⟩) lb cb]).run Tryz.prog w = .ok (.value (.bool false)) w := fun lb cb => by
    have hsa : w.shape? gv = some (40, 2) := by simp [World.shape?, hx]
    have hsb : w.shape? g = some (40, c * 2) := by simp [World.shape?, hg, hcur]
    rw [run_callFunc_extern Tryz.func74 (by kernel_rfl) (by kernel_rfl) (by kernel_rfl) (e := Extern.SlicesOverlaps.overlaps #[35, 35] #[4]) (by kernel_rfl),
      Lib.run_overlaps_apart w 35 4 40 Tryz.underlying35 2 Tryz.sizeOf40 ⟨gv, 0, none⟩ ⟨g, (i + 1) * 2, none⟩ 1 1 lb cb hne _ _ _ _ hsa hsb (by omega) (frozen_row hx 0) (frozen_row hx 2)]
    rfl
  have s1 := run_fromPD (g := g) (o := 0) (n := n) (c := c) (i := i) (z := (i : Int)) rfl (by omega) (by omega)
  have s2 := run_uptoPD (A := some ⟨g, 0, none⟩) (n := n) (c := c) (m := n + 1) (z := (n : Int) + 1) (by omega) (by omega)
  have s3 := run_fromPD (g := g) (o := 0) (n := n + 1) (c := c) (i := i + 1) (z := (i : Int) + 1) (by omega) (by omega) (by omega)
  have s4 := run_fromPD (g := g) (o := 0) (n := n + 1) (c := c) (i := i) (z := (i : Int)) rfl (by omega) (by omega)
  rw [Nat.zero_add] at s1 s3 s4
  have hin : ¬ ((i : Int) = (n : Int)) := by omega
  have hin2 : ((i : Int) == (n : Int)) = false := by rw [beq_eq_false_iff_ne]; exact hin
  have hrm : ¬ ((c : Int) < (n : Int) + 1) := by omega
  have hcm : c ≤ 9223372036854775807 := by simp only [maxLen] at hc; omega
  have w1 : IntKind.i64.wrap ((n : Int) + 1) = (n : Int) + 1 := wrap_is (by omega)
  have w2 : IntKind.i64.wrap ((i : Int) + 1) = (i : Int) + 1 := wrap_is (by omega)
  have mixed : Tryz.prog.follows .mixedOrders = true := by kernel_rfl
  have HZ := Lib.hid (show ∃ Z : List Value, (W1.setRow g Z.toArray).heap[g]? = some (.cells Z.toArray 40 (0, 0)) ∧ Z.length = c * 2 ∧ Z.take ((n + 1) * 2) = (l.take i ++ x :: l.drop i).flatMap D2.cells ∧ Only13 g w (W1.setRow g Z.toArray) ∧ (W1.setRow g Z.toArray).heap.size = w.heap.size from ⟨Z, hg2, hZl, hZt, hbel, hsz⟩)
  rw [← hW1] at hcp1
  clear hB hBl hAl hAB hR hRl hsrcB hB1 hZ1 hZ1l hZ hg1 hx1 hg hcur htake hx hl
  have HF := Lib.hid (show ∃ Z' : List Value, (W1.setRow g Z.toArray).heap[g]? = some (.cells Z'.toArray 40 (0, 0)) ∧ Z'.length = c * 2 ∧ Z'.take ((n + 1) * 2) = (l.take i ++ x :: l.drop i).flatMap D2.cells ∧ Only13 g w (W1.setRow g Z.toArray) ∧ (W1.setRow g Z.toArray).heap.size = w.heap.size from ⟨Z, hg2, hZl, hZt, hbel, hsz⟩)
  clear HZ hg2 hZl hZt hbel hsz hW1
  go_enter Tryz.func48, Tryz.ntmps48
  go_wp2_with (simp only [hov])
  go_region_law_o (refine step_copy_runI rfl _ _ 35 35 rfl (.slice (some ⟨g, (i + 1) * 2, none⟩) (n + 1 - (i + 1)) (c - (i + 1))) (.slice (some ⟨g, i * 2, none⟩) (n + 1 - i) (c - i)) (by simp [Act.eval, Act.put]) (by simp [Act.eval, Act.put]) (hcp1 _ _ _) ?_)
  go_wp2_with (at_builtin; refine wpList_copy_runI _ rfl _ _ 35 35 rfl _ _ rfl rfl (hcp2 _ _) ?_)
  go_ret
  exact ⟨rfl, HF.out⟩
set_option maxHeartbeats 4000000 in
theorem insert_growD (g n c i gv : Nat) (l : List D2) (cur : List Value) (x : D2) (w : World) (hi : i < n) (hroom : c < n + 1) (hnc : n ≤ c) (hn : n ≤ 4294967296) (hl : l.length = n)
    (hg : w.heap[g]? = some (.cells cur.toArray 40 (0, 0))) (_hcur : cur.length = c * 2) (htake : cur.take (n * 2) = l.flatMap D2.cells) (hx : w.heap[gv]? = some (dotBox x)) :
    Calls Tryz.prog 48 #[.slice (some ⟨g, 0, none⟩) n c, .int .i64 i, .slice (some ⟨gv, 0, none⟩) 1 1] w fun e w' =>
      ∃ G, e = .returned (.slice (some ⟨w.heap.size, 0, none⟩) (n + 1) G) ∧ n + 1 ≤ G ∧ G ≤ maxLen ∧ ∃ Z : List Value, w'.heap[w.heap.size]? = some (.cells Z.toArray 40 (0, 0)) ∧ Z.length = G * 2 ∧ Z.take ((n + 1) * 2) = (l.take i ++ x :: l.drop i).flatMap D2.cells ∧ Below w.heap.size w w' ∧ w.heap.size < w'.heap.size := by
  obtain ⟨B, hB⟩ : ∃ B, B = (l.drop i).flatMap D2.cells := ⟨_, rfl⟩
  have hBl : B.length = (n - i) * 2 := by rw [hB, flat_len d2len, List.length_drop, hl]
  obtain ⟨A, hA⟩ : ∃ A, A = (l.take i).flatMap D2.cells := ⟨_, rfl⟩
  have hAl : A.length = i * 2 := by rw [hA, flat_len d2len, List.length_take, hl]; omega
  have hAB : l.flatMap D2.cells = A ++ B := by rw [hA, hB, ← List.flatMap_append, List.take_append_drop]
  obtain ⟨R, hR⟩ : ∃ R, cur = A ++ B ++ R := ⟨cur.drop (n * 2), by rw [← hAB, ← htake, List.take_append_drop]⟩
  have hsrcA : ∀ j v, A[j]? = some v → w.cell? ((⟨g, 0, none⟩ : Addr).add j) = some v := by
    intro j v hv
    rw [Addr.add_lit, cell_row hg, List.getElem?_toArray, hR, List.append_assoc, Nat.zero_add, List.getElem?_append_left (List.getElem?_eq_some_iff.1 hv).1, hv]
  have hsrcB : ∀ j v, B[j]? = some v → w.cell? ((⟨g, i * 2, none⟩ : Addr).add j) = some v := by
    intro j v hv
    rw [Addr.add_lit, cell_row hg, List.getElem?_toArray, hR, List.append_assoc, List.getElem?_append_right (by rw [hAl]; omega), hAl, Nat.add_sub_cancel_left, List.getElem?_append_left (List.getElem?_eq_some_iff.1 hv).1, hv]
  have hB1 : ∀ v ∈ B, v.oneCell' = true := by
    intro v hv
    rw [hB, List.mem_flatMap] at hv
    obtain ⟨p, _, hp⟩ := hv
    exact d2one p v hp
  have hgw : g < w.heap.size := (Array.getElem?_eq_some_iff.1 hg).1
  obtain ⟨i0, hi0, hz0, hzs, hzb⟩ := info_parts Tryz.infoDot
  obtain ⟨ZZ, hZZ⟩ : ∃ ZZ : Value, ZZ = .agg #[.int .i64 0, .int .i64 0] := ⟨_, rfl⟩
  have hZs : ZZ.cells.size = 2 := by rw [hZZ]; rfl
  rw [← hZZ] at hz0
  have hold : (Builtin.firstCells i0.size i (.slice (some ⟨g, 0, none⟩) i c)).run Tryz.prog w.drew = .ok A.toArray w.drew := by
    rw [hzs]
    exact run_firstCells_some w.drew 2 i ⟨g, 0, none⟩ i c A (by rw [hAl]) hsrcA
  obtain ⟨G, hG⟩ : ∃ G, G = grownCap w (n + 1) c 40 := ⟨_, rfl⟩
  obtain ⟨T, hT⟩ : ∃ T : List Value, T = (Builtin.zeroCells ZZ.cells (n + 1 - i) ++ Builtin.zeroCells ZZ.cells (G - (n + 1))).toList := ⟨_, rfl⟩
  have hGn : n + 1 ≤ G := by rw [hG]; exact grownCap_ge w _ _ _
  have hGm : G ≤ maxLen := by rw [hG]; exact grownCap_le_maxLen w (n + 1) c 40 (by simp only [maxLen]; omega)
  have hzl : ∀ q, (Builtin.zeroCells ZZ.cells q).size = q * 2 := fun q => by simp [Builtin.zeroCells, hZs]
  have hTl : T.length = (G - i) * 2 := by rw [hT, Array.length_toList, Array.size_append, hzl, hzl]; omega
  have hrz : ∀ ty, (Builtin.append_ #[35, 3] ty #[.slice (some ⟨g, 0, none⟩) i c, .int .i64 ((n : Int) + 1 - (i : Int))]).run Tryz.prog w =
      .ok (.slice (some ⟨w.heap.size, 0, none⟩) (n + 1) G) (w.drew.alloc (.cells (A ++ T).toArray 40)) := fun ty => by
    have hik : i + (n + 1 - i) = n + 1 := by omega
    have h := Lib.run_append_grow_zeros w 35 3 ty 40 i0 _ .i64 .i64 Tryz.underlying35 Tryz.underlying3 hi0 hz0 (some ⟨g, 0, none⟩) i c A hold (n + 1 - i) (by omega) (by omega) (by omega) (by omega) (by rw [hzb]; omega) (by rw [hzb, hik]; exact growslice_fits hroom (by omega))
    rw [hik, ← hG] at h
    rw [show (n : Int) + 1 - (i : Int) = ((n + 1 - i : Nat) : Int) by omega]
    rw [h, hT]
    congr 3
    simp
  obtain ⟨W1, hW1⟩ : ∃ W1, W1 = w.drew.alloc (.cells (A ++ T).toArray 40) := ⟨_, rfl⟩
  have hW1b : W1 = (w.alloc (.cells (A ++ T).toArray 40)).drew := hW1
  have hg1 : W1.heap[w.heap.size]? = some (.cells (A ++ T).toArray 40 (0, 0)) := by rw [hW1]; exact heap_alloc_new w.drew _
  have hx1 : W1.heap[gv]? = some (dotBox x) := by
    have := (Array.getElem?_eq_some_iff.1 hx).1
    rw [hW1, Below.heap_alloc w.drew _ gv this]; exact hx
  have hgv : gv ≠ w.heap.size := by have := (Array.getElem?_eq_some_iff.1 hx).1; omega
  obtain ⟨Z1, hZ1⟩ : ∃ Z1, Z1 = splice (A ++ T) (i * 2) (D2.cells x) := ⟨_, rfl⟩
  have hZ1l : Z1.length = G * 2 := by rw [hZ1, length_splice _ _ _ (by rw [d2len, List.length_append, hAl, hTl]; omega), List.length_append, hAl, hTl]; omega
  have hcpA : ∀ ty dc, (Builtin.copy_ #[35, 35] ty #[.slice (some ⟨w.heap.size, i * 2, none⟩) (n + 1 - i) dc, .slice (some ⟨gv, 0, none⟩) 1 1]).run Tryz.prog W1 = .ok (goInt (1 : Nat)) (W1.setRow w.heap.size Z1.toArray) := fun ty dc => by
    rw [hZ1]
    exact run_copyK W1 _ _ ty 40 2 w.heap.size (i * 2) _ dc ⟨gv, 0, none⟩ 1 1 (A ++ T) 40 (D2.cells x) 1 Tryz.underlying35 Tryz.sizeD hg1 (by simp only [Nat.min_def]; split <;> omega) (d2len x) (part_srcD hx1) (by rw [d2len, List.length_append, hAl, hTl]; omega) (d2one x)
  obtain ⟨W2, hW2⟩ : ∃ W2, W2 = W1.setRow w.heap.size Z1.toArray := ⟨_, rfl⟩
  have hg2 : W2.heap[w.heap.size]? = some (.cells Z1.toArray 40 (0, 0)) := by rw [hW2]; exact setRow_of Z1 hg1
  have hB2 : ∀ j v, B[j]? = some v → W2.drew.cell? ((⟨g, i * 2, none⟩ : Addr).add j) = some v := by
    intro j v hv
    rw [← hsrcB j v hv, hW2, hW1]
    have h1 : ((w.drew.alloc (.cells (A ++ T).toArray 40)).setRow w.heap.size Z1.toArray).heap[g]? = w.heap[g]? := by
      rw [setRow_other _ w.heap.size g _ (by omega), Below.heap_alloc w.drew _ g hgw]; rfl
    rw [Addr.add_lit]
    show World.cell? _ _ = World.cell? _ _
    simp only [World.cell?]
    rw [show (World.drew ((w.drew.alloc (.cells (A ++ T).toArray 40)).setRow w.heap.size Z1.toArray)).heap[g]? = w.heap[g]? from h1]
  obtain ⟨Z, hZ⟩ : ∃ Z, Z = splice Z1 ((i + 1) * 2) B := ⟨_, rfl⟩
  have hZl : Z.length = G * 2 := by rw [hZ, length_splice _ _ _ (by rw [hBl, hZ1l]; omega), hZ1l]
  have hZt : Z.take ((n + 1) * 2) = (l.take i ++ x :: l.drop i).flatMap D2.cells := by
    have e := splice_new A T (D2.cells x) B 2 (d2len x) (by rw [hBl, hTl]; omega)
    rw [hAl, show i * 2 + 2 = (i + 1) * 2 by omega, ← hZ1, ← hZ] at e
    rw [e, List.take_left' (by simp only [List.length_append]; rw [hAl, hBl, d2len]; omega), hA, hB]
    simp
  have hcpB : ∀ ty dc sc, (Builtin.copy_ #[35, 35] ty #[.slice (some ⟨w.heap.size, (i + 1) * 2, none⟩) (n + 1 - (i + 1)) dc, .slice (some ⟨g, i * 2, none⟩) (n - i) sc]).run Tryz.prog W2.drew = .ok (goInt (n - i : Nat)) (W2.drew.setRow w.heap.size Z.toArray) := fun ty dc sc => by
    rw [hZ]
    exact run_copyK W2.drew _ _ ty 40 2 w.heap.size ((i + 1) * 2) _ dc ⟨g, i * 2, none⟩ _ sc Z1 40 B (n - i) Tryz.underlying35 Tryz.sizeD hg2 (by simp only [Nat.min_def]; split <;> omega) hBl hB2 (by rw [hBl, hZ1l]; omega) hB1
  obtain ⟨W3, hW3⟩ : ∃ W3, W3 = W2.drew.setRow w.heap.size Z.toArray := ⟨_, rfl⟩
  have hg3 : W3.heap[w.heap.size]? = some (.cells Z.toArray 40 (0, 0)) := by rw [hW3]; exact setRow_of Z (w := W2.drew) hg2
  have hbel : Below w.heap.size w W3 := by
    rw [hW3, hW2, hW1]
    exact below_setRow (Below.drew (below_setRow (Below.alloc ((Below.refl w.heap.size w).drew) (Nat.le_refl _) _) (Nat.le_refl _) _)) (Nat.le_refl _) _
  have hsz : w.heap.size < W3.heap.size := (Array.getElem?_eq_some_iff.1 hg3).1
  have s1 := run_fromPD (g := g) (o := 0) (n := n) (c := c) (i := i) (z := (i : Int)) rfl (by omega) (by omega)
  have s2 := run_uptoPD (A := some ⟨g, 0, none⟩) (n := n) (c := c) (m := i) (z := (i : Int)) rfl (by omega)
  have s3 := run_fromPD (g := w.heap.size) (o := 0) (n := n + 1) (c := G) (i := i) (z := (i : Int)) rfl (by omega) (by omega)
  have s4 := run_fromPD (g := w.heap.size) (o := 0) (n := n + 1) (c := G) (i := i + 1) (z := (i : Int) + 1) (by omega) (by omega) (by omega)
  rw [Nat.zero_add] at s1 s3 s4
  have hin : ¬ ((i : Int) = (n : Int)) := by omega
  have hin2 : ((i : Int) == (n : Int)) = false := by rw [beq_eq_false_iff_ne]; exact hin
  have hrm : (c : Int) < (n : Int) + 1 := by omega
  have w1 : IntKind.i64.wrap ((n : Int) + 1) = (n : Int) + 1 := wrap_is (by omega)
  have w2 : IntKind.i64.wrap ((i : Int) + 1) = (i : Int) + 1 := wrap_is (by omega)
  have w3 : IntKind.i64.wrap ((n : Int) + 1 - (i : Int)) = (n : Int) + 1 - (i : Int) := wrap_is (by omega)
  have mixed : Tryz.prog.follows .mixedOrders = true := by kernel_rfl
  have HF := Lib.hid (show n + 1 ≤ G ∧ G ≤ maxLen ∧ ∃ Z : List Value, W3.heap[w.heap.size]? = some (.cells Z.toArray 40 (0, 0)) ∧ Z.length = G * 2 ∧ Z.take ((n + 1) * 2) = (l.take i ++ x :: l.drop i).flatMap D2.cells ∧ Below w.heap.size w W3 ∧ w.heap.size < W3.heap.size from ⟨hGn, hGm, Z, hg3, hZl, hZt, hbel, hsz⟩)
  rw [← hW1] at hrz
  rw [← hW2] at hcpA
  rw [← hW3] at hcpB
  clear hB hBl hA hAl hAB hR hsrcA hsrcB hB1 hgw hi0 hz0 hzs hzb hZZ hZs hold hG hT hGn hGm hzl hTl hW1 hW1b hg1 hx1 hgv hZ1 hZ1l hW2 hg2 hB2 hZ hZl hZt hW3 hg3 hbel hsz hg _hcur htake hx hl
  go_enter Tryz.func48, Tryz.ntmps48
  go_wp2_with (first
    | (at_builtin; refine Lib.wpList_append_run _ rfl _ _ _ _ rfl _ _ rfl rfl _ _ (hrz _) ?_)
    | (at_builtin; refine wpList_copy_runI _ rfl _ _ 35 35 rfl _ _ rfl rfl (hcpA _ _) ?_))
  go_region_law_o (refine step_copy_runI rfl _ _ 35 35 rfl (.slice (some ⟨w.heap.size, (i + 1) * 2, none⟩) (n + 1 - (i + 1)) (G - (i + 1))) (.slice (some ⟨g, i * 2, none⟩) (n - i) (c - i)) (by simp [Act.eval, Act.put]) (by simp [Act.eval, Act.put]) (hcpB _ _ _) ?_)
  go_wp2
  go_ret
  exact ⟨_, rfl, HF.out⟩
theorem run_fromEndD {A : Option Addr} {n c : Nat} (_h : n ≤ c) : ∃ B, ∀ W, (Instr.slice 35 (.slice A n c) (some (.int .i64 (n : Int))) none none).run Tryz.prog W = .ok (.slice B 0 (c - n)) W := by
  refine ⟨if c = n then A else A.map (·.add (n * 2)), fun W => ?_⟩
  have hz : (sizeOf (Tryz.prog.elem 35)).run Tryz.prog W = .ok 2 W := by kernel_rfl
  have ht : Tryz.prog.underlying 35 = some (.slice (Tryz.prog.elem 35)) := by kernel_rfl
  rw [run_slice_l (P := Tryz.prog) (w := W) (t := 35) (a := A) (len := n) (cap := c) (ht := ht) (kl := .i64) (l := n) (h0 := by omega) (h1 := by omega), hz]
  simp [Result.andThen, sliced]
set_option maxHeartbeats 4000000 in
theorem insert_endD (base n c gv : Nat) (A : Option Addr) (l : List D2) (x : D2) (w : World) (hnc : n ≤ c) (hn : n ≤ 4294967295)
    (hown : w.ownsRow base 40 2 (.slice A n c) n (l.flatMap D2.cells)) (hx : w.heap[gv]? = some (dotBox x)) (hbase : base ≤ w.heap.size) :
    Calls Tryz.prog 48 #[.slice A n c, .int .i64 n, .slice (some ⟨gv, 0, none⟩) 1 1] w fun e w' =>
      ∃ v, e = .returned v ∧ w'.ownsRow base 40 2 v (n + 1) ((l ++ [x]).flatMap D2.cells) ∧ Below base w w' ∧ base ≤ w'.heap.size ∧ ∀ k, (∀ q, (Value.slice A n c).ownBlock = some q → k ≠ q) → k < w.heap.size → w'.heap[k]? = w.heap[k]? := by
  obtain ⟨B, s1⟩ := run_fromEndD (A := A) hnc
  obtain ⟨i0, hi0, hz0, hz1, hz2⟩ := info_parts Tryz.infoDot
  have hsrc := Lib.hid (part_srcD hx)
  have HO := Lib.hid hown
  clear hx hown
  go_enter Tryz.func48, Tryz.ntmps48
  go_wp2_with (at_builtin; refine wpList_append_own _ rfl _ _ 35 rfl base 40 i0 _ 2 16 Tryz.underlying35 hi0 hz0 hz1 hz2 rfl (by omega) (.slice A n c) n (l.flatMap D2.cells) rfl HO.out ⟨gv, 0, none⟩ 1 1 (D2.cells x) rfl (d2len x) hsrc.out (d2one x) (by simp only [maxLen]; omega) (by omega) hbase ?_; intro v' w' hown' hgrow _)
  go_ret
  refine ⟨_, rfl, by rw [List.flatMap_append]; simpa using hown', (Below.refl base w).grown hgrow (by omega) (fun k hk => (HO.out.lt k hk).1), by have := hgrow.size; omega, fun k hk hlt => hgrow.block k hlt (fun e => hk k e.symm rfl)⟩
/-- one part more, in its place, in a row of the call's own -/
theorem insert_anyD (base n c i gv : Nat) (A : Option Addr) (l : List D2) (x : D2) (w : World) (hi : i ≤ n) (hn : n ≤ 4294967295)
    (hown : w.ownsRow base 40 2 (.slice A n c) n (l.flatMap D2.cells)) (hx : w.heap[gv]? = some (dotBox x)) (hbase : base ≤ w.heap.size) (hne : ∀ k, (Value.slice A n c).ownBlock = some k → gv ≠ k) :
    Calls Tryz.prog 48 #[.slice A n c, .int .i64 i, .slice (some ⟨gv, 0, none⟩) 1 1] w fun e w' =>
      ∃ v, e = .returned v ∧ w'.ownsRow base 40 2 v (n + 1) ((l.take i ++ x :: l.drop i).flatMap D2.cells) ∧ Below base w w' ∧ base ≤ w'.heap.size ∧ ∀ k, (∀ q, (Value.slice A n c).ownBlock = some q → k ≠ q) → k < w.heap.size → w'.heap[k]? = w.heap[k]? := by
  have hl : l.length = n := by
    have := hown.1
    rw [flat_len d2len] at this
    omega
  have hlen : ((l.take i ++ x :: l.drop i).flatMap D2.cells).length = (n + 1) * 2 := by
    rw [flat_len d2len, List.length_append, List.length_cons, List.length_take, List.length_drop]; omega
  have hnc : n ≤ c := by
    rcases hown.2 with ⟨hv, h0⟩ | ⟨g, cap, cur, hv, _, _, h2, _⟩
    · omega
    · injection hv with _ _ h3; omega
  rcases Nat.lt_or_ge i n with h | h
  · rcases hown.2 with ⟨hv, h0⟩ | ⟨g, cap, cur, hv, hbg, hg, h2, h3, h4, h5⟩
    · omega
    · injection hv with e1 _ e3
      subst e1 e3
      have hgl : w.heap[g]? = some (.cells cur.toList.toArray 40 (0, 0)) := by rw [Array.toArray_toList]; exact hg
      rcases Nat.lt_or_ge c (n + 1) with hr | hr
      · refine (insert_growD g n c i gv l cur.toList x w h hr hnc (by omega) hl hgl (by simpa using h4) h5 hx).mono ?_
        rintro e w' ⟨G, rfl, k1, k2, Z, k3, k4, k5, k6, k7⟩
        exact ⟨_, rfl, ⟨hlen, .inr ⟨_, G, Z.toArray, rfl, hbase, k3, k1, k2, by simpa using k4, by simpa using k5⟩⟩, k6.mono hbase, by omega, fun k _ hlt => k6.block k hlt⟩
      · refine (insert_shiftD g n c i gv l cur.toList x w h hr h3 hl hgl (by simpa using h4) h5 hx (hne g rfl)).mono ?_
        rintro e w' ⟨rfl, Z, k3, k4, k5, k6, k7⟩
        exact ⟨_, rfl, ⟨hlen, .inr ⟨g, c, Z.toArray, rfl, hbg, k3, hr, h3, by simpa using k4, by simpa using k5⟩⟩, k6.1.mono hbg, by omega, fun k hk _ => k6.2 k (hk g rfl)⟩
  · obtain rfl : i = n := by omega
    rw [List.take_of_length_le (by omega), List.drop_of_length_le (by omega)]
    exact insert_endD base i c gv A l x w hnc hn hown hx hbase
end Go.Proofs.YtfljhnalmiibeaaGreat

