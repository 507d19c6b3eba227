/- Layer 11: the seven questions, as closures. Written by schask.py. -/
import Derived.Test.YtogfnjlhfbpneaaSchFkA
import Derived.Test.YtogfnjlhfbpneaaSchSum
namespace Go.Proofs.Ytogfnjlhfbpneaa
set_option maxRecDepth 100000
open Go.RowKit

/-- a closure over a place tells what is amiss there, in every world behind w0 -/
def AskC (P : Program) (g : Nat) (cb : Array Value) (m : Nat) (f : Nat → Int) (w0 : World) : Prop :=
  ∀ W, Below w0.heap.size w0 W → ∀ i : Nat, i < m → Calls P g (#[.int .i64 i] ++ cb) W fun e W' => e = .returned (.int .i64 (f i)) ∧ Below W.heap.size W W'

theorem run_uptoTab {A : Option Addr} {n c m : Nat} (h : m ≤ c) (W : World) : (Instr.slice 24 (.slice A n c) none (some (.int .i64 m)) none).run Try.prog W = .ok (.slice A m c) W := by
  have hz : (sizeOf (Try.prog.elem 24)).run Try.prog W = .ok 6 W := by kernel_rfl
  have ht : Try.prog.underlying 24 = some (.slice (Try.prog.elem 24)) := by kernel_rfl
  rw [run_slice_h (P := Try.prog) (w := W) (t := 24) (a := A) (len := n) (cap := c) (ht := ht) (kh := .i64) (h := m) (h0 := by omega) (h2 := by omega), hz]
  have ha : A.map (·.add (0 * 6)) = A := by cases A <;> simp [Addr.add]
  simp only [Result.andThen, sliced, ha, Int.toNat_natCast, Nat.sub_zero, ite_self]

theorem run_uptoCol {A : Option Addr} {n c m : Nat} (h : m ≤ c) (W : World) : (Instr.slice 33 (.slice A n c) none (some (.int .i64 m)) none).run Try.prog W = .ok (.slice A m c) W := by
  have hz : (sizeOf (Try.prog.elem 33)).run Try.prog W = .ok 4 W := by kernel_rfl
  have ht : Try.prog.underlying 33 = some (.slice (Try.prog.elem 33)) := by kernel_rfl
  rw [run_slice_h (P := Try.prog) (w := W) (t := 33) (a := A) (len := n) (cap := c) (ht := ht) (kh := .i64) (h := m) (h0 := by omega) (h2 := by omega), hz]
  have ha : A.map (·.add (0 * 4)) = A := by cases A <;> simp [Addr.add]
  simp only [Result.andThen, sliced, ha, Int.toNat_natCast, Nat.sub_zero, ite_self]

set_option maxHeartbeats 3200000 in
theorem ask1_any (A : Option Addr) (n c k : Nat) (l : List T6) (t : T6) (gs gi gt : Nat) (w0 : World) (h : RdS w0 A n c l) (hk : k < n) (hs : w0.heap[gs]? = some (schBox A n c)) (hi : w0.heap[gi]? = some (.cells #[.int .i64 k] 3)) (ht : w0.heap[gt]? = some (tabBox t)) :
    AskC Try.prog 34 #[.pointer (some ⟨gs, 0, none⟩), .pointer (some ⟨gi, 0, none⟩), .pointer (some ⟨gt, 0, none⟩)] 1 (fun _ => nameErr (l.take k) t.nm) w0 := by
  intro W0 hW i _
  have HR := Lib.hid (h.below hW)
  have HC := Lib.hid (h.row.cap)
  obtain ⟨E, hE⟩ : ∃ E, Hid (nameErr (l.take k) t.nm = E) := ⟨_, rfl⟩
  have C : Hid (∀ W, Below W0.heap.size W0 W → Calls Try.prog 35 #[.slice A k c, .string t.nm] W fun e w' => e = .returned (.int .i64 E) ∧ Below W.heap.size W w') := fun W hW => by
    rw [← hE.out]; exact nameAmiss_any A k c (l.take k) t.nm W ((HR.out.upto (Nat.le_of_lt hk)).below hW)
  have SL := fun W => run_uptoTab (A := A) (n := n) (c := c) (m := k) (Nat.le_trans (Nat.le_of_lt hk) HC.out) W
  have k0 : Below W0.heap.size W0 W0.drew := (Below.refl _ _).drew
  have k1 : W0.drew.cell? ⟨gs, 0, none⟩ = some (.slice A n c) := sch_row (row_below hs hW.drew)
  have k2 : W0.drew.cell? ⟨gi, 0, none⟩ = some (.int .i64 k) := int_row (row_below hi hW.drew)
  have k3 : W0.drew.cell? ⟨gt, 0, none⟩ = some (.string t.nm) := (tab_row (row_below ht hW.drew)).1
  show Calls _ _ _ _ fun e W' => e = .returned (.int .i64 (nameErr (l.take k) t.nm)) ∧ _
  rw [hE.out]
  clear h hs hi ht hW hE
  go_enter Try.func34, Try.ntmps34
  go_upto_region 1 with fail
  go_region_held3 (fun W => Below W0.heap.size W0 W ∧ W.cell? ⟨gs, 0, none⟩ = some (.slice A n c) ∧ W.cell? ⟨gi, 0, none⟩ = some (.int .i64 k) ∧ W.cell? ⟨gt, 0, none⟩ = some (.string t.nm))
    (first
      | (go_split_ands
         refine ⟨?_, ?_, ?_, ?_⟩
         · exact below_then (by assumption) bb
         all_goals exact (bb.cell (World.block_lt_of_cell? _ _ (by assumption))).trans (by assumption))
      | (go_split_ands
         refine ⟨?_, ?_, ?_, ?_⟩
         · exact Below.drew (by assumption)
         all_goals (show World.cell? _ _ = _; assumption))
      | (go_split_ands
         refine ⟨?_, ?_, ?_, ?_⟩
         all_goals assumption))
    (first
      | (go_at_call 35; refine (C.out _ (by go_split_ands; assumption)).mono ?_; rintro e wx ⟨rfl, bb⟩))
  go_split_ands
  have HB := Lib.hid (show Below W0.heap.size W0 wx by assumption)
  go_wp2_with fail
  go_ret
  exact ⟨rfl, HB.out⟩

set_option maxHeartbeats 3200000 in
theorem ask3_any (t : T6) (gt : Nat) (w0 : World) (h : t.Reads w0) (ht : w0.heap[gt]? = some (tabBox t)) :
    AskC Try.prog 38 #[.pointer (some ⟨gt, 0, none⟩)] t.nc (fun i => colErr (t.cols.take i) (t.cols.getD i c40)) w0 := by
  intro W0 hW i hi
  have HR := Lib.hid (h.cols.below hW)
  have HC := Lib.hid (h.cols.cap)
  obtain ⟨b, o, x, hca, hb, hx, hld⟩ := HR.out.col hi
  have HX := Lib.hid hx
  obtain ⟨E, hE⟩ : ∃ E, Hid (colErr (t.cols.take i) (t.cols.getD i c40) = E) := ⟨_, rfl⟩
  have C : Hid (∀ W, Below W0.heap.size W0 W → Calls Try.prog 39 #[.slice (some ⟨b, o, none⟩) i t.cc, .agg #[.string x.nm, .int .i64 x.k, .int .i64 x.t, .bool x.z]] W fun e w' => e = .returned (.int .i64 E) ∧ Below W.heap.size W w') := fun W hW => by
    rw [← hE.out, getD_of HX.out, ← hca]; exact columnAmiss_any t.ca i t.cc (t.cols.take i) x W ((HR.out.upto (Nat.le_of_lt hi) (Nat.le_trans (Nat.le_of_lt hi) HC.out) (Nat.le_refl _)).below hW)
  have SL := fun W => run_uptoCol (A := some ⟨b, o, none⟩) (n := t.nc) (c := t.cc) (m := i) (Nat.le_trans (Nat.le_of_lt hi) HC.out) W
  have y1 : (i : Int) < (t.nc : Int) := by omega
  have y0 : (0 : Int) ≤ (i : Int) := by omega
  have k0 : Below W0.heap.size W0 W0.drew := (Below.refl _ _).drew
  have k1 : W0.drew.cell? ⟨gt, 1, none⟩ = some (.slice (some ⟨b, o, none⟩) t.nc t.cc) := by rw [← hca]; exact (tab_row (row_below ht hW)).2.1
  obtain ⟨k2, k3, k4, k5⟩ := hld W0.drew (Below.refl _ _).drew
  show Calls _ _ _ _ fun e W' => e = .returned (.int .i64 (colErr (t.cols.take i) (t.cols.getD i c40))) ∧ _
  rw [hE.out]
  clear h ht hW hE hca hb hx hld
  go_enter Try.func38, Try.ntmps38
  go_upto_region 1 with fail
  go_region_held3 (fun W => Below W0.heap.size W0 W ∧ W.cell? ⟨gt, 1, none⟩ = some (.slice (some ⟨b, o, none⟩) t.nc t.cc) ∧ W.cell? ⟨b, o + i * 4, none⟩ = some (.string x.nm) ∧ W.cell? ⟨b, o + i * 4 + 1, none⟩ = some (.int .i64 x.k) ∧ W.cell? ⟨b, o + i * 4 + 2, none⟩ = some (.int .i64 x.t) ∧ W.cell? ⟨b, o + i * 4 + 3, none⟩ = some (.bool x.z))
    (first
      | (go_split_ands
         refine ⟨?_, ?_, ?_, ?_, ?_, ?_⟩
         · exact below_then (by assumption) bb
         all_goals exact (bb.cell (World.block_lt_of_cell? _ _ (by assumption))).trans (by assumption))
      | (go_split_ands
         refine ⟨?_, ?_, ?_, ?_, ?_, ?_⟩
         · exact Below.drew (by assumption)
         all_goals (show World.cell? _ _ = _; assumption))
      | (go_split_ands
         refine ⟨?_, ?_, ?_, ?_, ?_, ?_⟩
         all_goals assumption))
    (first
      | (go_at_call 39; refine (C.out _ (by go_split_ands; assumption)).mono ?_; rintro e wx ⟨rfl, bb⟩))
  go_split_ands
  have HB := Lib.hid (show Below W0.heap.size W0 wx by assumption)
  go_wp2_with fail
  go_ret
  exact ⟨rfl, HB.out⟩

set_option maxHeartbeats 3200000 in
theorem ask2_any (t : T6) (gt : Nat) (w0 : World) (ht : w0.heap[gt]? = some (tabBox t)) :
    AskC Try.prog 36 #[.pointer (some ⟨gt, 0, none⟩)] 1 (fun _ => sizeErr t) w0 := by
  intro W0 hW i hi
  obtain ⟨E, hE⟩ : ∃ E, Hid (sizeErr t = E) := ⟨_, rfl⟩
  have C : Hid (Calls Try.prog 37 #[.agg #[.string t.nm, .slice t.ca t.nc t.cc, .slice t.ua t.nu t.uc, .slice t.ha t.nh t.hc, .slice t.fa t.nf t.fc, .slice t.sa t.ns t.sc]] W0 fun e w' => e = .returned (.int .i64 E) ∧ Below W0.heap.size W0 w') := by
    rw [← hE.out]; exact sizeAmiss_any t W0
  obtain ⟨c0, c1, c2, c3, c4, c5⟩ := tab_row (row_below ht hW)
  show Calls _ _ _ _ fun e W' => e = .returned (.int .i64 (sizeErr t)) ∧ _
  rw [hE.out]
  clear ht hW hE
  go_enter Try.func36, Try.ntmps36
  go_wp2_with fail
  refine C.out.mono ?_
  rintro e w2 ⟨rfl, b2⟩
  have HB := Lib.hid b2
  clear b2 C
  go_wp2_with fail
  go_ret
  exact ⟨rfl, HB.out⟩

set_option maxHeartbeats 3200000 in
theorem ask5_any (t : T6) (gt : Nat) (w0 : World) (h : t.Reads w0) (ht : w0.heap[gt]? = some (tabBox t)) :
    AskC Try.prog 42 #[.pointer (some ⟨gt, 0, none⟩)] t.nu (fun i => uniErr t.cols t.uni i) w0 := by
  intro W0 hW i hi
  obtain ⟨E, hE⟩ : ∃ E, Hid (uniErr t.cols t.uni i = E) := ⟨_, rfl⟩
  have C : Hid (Calls Try.prog 43 #[.agg #[.string t.nm, .slice t.ca t.nc t.cc, .slice t.ua t.nu t.uc, .slice t.ha t.nh t.hc, .slice t.fa t.nf t.fc, .slice t.sa t.ns t.sc], .int .i64 i] W0 fun e w' => e = .returned (.int .i64 E) ∧ Below W0.heap.size W0 w') := by
    rw [← hE.out]; exact uniqueAmiss_any t i W0 (h.below hW) hi
  obtain ⟨c0, c1, c2, c3, c4, c5⟩ := tab_row (row_below ht hW)
  show Calls _ _ _ _ fun e W' => e = .returned (.int .i64 (uniErr t.cols t.uni i)) ∧ _
  rw [hE.out]
  clear ht hW hE h
  go_enter Try.func42, Try.ntmps42
  go_wp2_with fail
  refine C.out.mono ?_
  rintro e w2 ⟨rfl, b2⟩
  have HB := Lib.hid b2
  clear b2 C
  go_wp2_with fail
  go_ret
  exact ⟨rfl, HB.out⟩

set_option maxHeartbeats 3200000 in
theorem ask6_any (A : Option Addr) (n c gs : Nat) (t : T6) (gt : Nat) (w0 : World) (hs : w0.heap[gs]? = some (schBox A n c)) (h : t.Reads w0) (ht : w0.heap[gt]? = some (tabBox t)) :
    AskC Try.prog 44 #[.pointer (some ⟨gs, 0, none⟩), .pointer (some ⟨gt, 0, none⟩)] t.nf (fun i => fkErr n t.cols t.fks i) w0 := by
  intro W0 hW i hi
  obtain ⟨E, hE⟩ : ∃ E, Hid (fkErr n t.cols t.fks i = E) := ⟨_, rfl⟩
  have C : Hid (Calls Try.prog 45 #[.agg #[.slice A n c], .agg #[.string t.nm, .slice t.ca t.nc t.cc, .slice t.ua t.nu t.uc, .slice t.ha t.nh t.hc, .slice t.fa t.nf t.fc, .slice t.sa t.ns t.sc], .int .i64 i] W0 fun e w' => e = .returned (.int .i64 E) ∧ Below W0.heap.size W0 w') := by
    rw [← hE.out]; exact foreignAmiss_any A n c t i W0 (h.below hW) hi
  obtain ⟨c0, c1, c2, c3, c4, c5⟩ := tab_row (row_below ht hW)
  have s0 := sch_row (row_below hs hW)
  show Calls _ _ _ _ fun e W' => e = .returned (.int .i64 (fkErr n t.cols t.fks i)) ∧ _
  rw [hE.out]
  clear ht hW hE hs h
  go_enter Try.func44, Try.ntmps44
  go_wp2_with fail
  refine C.out.mono ?_
  rintro e w2 ⟨rfl, b2⟩
  have HB := Lib.hid b2
  clear b2 C
  go_wp2_with fail
  go_ret
  exact ⟨rfl, HB.out⟩

set_option maxHeartbeats 3200000 in
theorem ask7_any (t : T6) (gt : Nat) (w0 : World) (h : t.Reads w0) (ht : w0.heap[gt]? = some (tabBox t)) :
    AskC Try.prog 46 #[.pointer (some ⟨gt, 0, none⟩)] t.ns (fun i => sumErr t.cols t.sums i) w0 := by
  intro W0 hW i hi
  obtain ⟨E, hE⟩ : ∃ E, Hid (sumErr t.cols t.sums i = E) := ⟨_, rfl⟩
  have C : Hid (Calls Try.prog 47 #[.agg #[.string t.nm, .slice t.ca t.nc t.cc, .slice t.ua t.nu t.uc, .slice t.ha t.nh t.hc, .slice t.fa t.nf t.fc, .slice t.sa t.ns t.sc], .int .i64 i] W0 fun e w' => e = .returned (.int .i64 E) ∧ Below W0.heap.size W0 w') := by
    rw [← hE.out]; exact sumAmiss_any t i W0 (h.below hW) hi
  obtain ⟨c0, c1, c2, c3, c4, c5⟩ := tab_row (row_below ht hW)
  show Calls _ _ _ _ fun e W' => e = .returned (.int .i64 (sumErr t.cols t.sums i)) ∧ _
  rw [hE.out]
  clear ht hW hE h
  go_enter Try.func46, Try.ntmps46
  go_wp2_with fail
  refine C.out.mono ?_
  rintro e w2 ⟨rfl, b2⟩
  have HB := Lib.hid b2
  clear b2 C
  go_wp2_with fail
  go_ret
  exact ⟨rfl, HB.out⟩

set_option maxHeartbeats 3200000 in
theorem ask4_any (t : T6) (gt : Nat) (w0 : World) (h : t.Reads w0) (h0 : 0 < t.nc) (ht : w0.heap[gt]? = some (tabBox t)) :
    AskC Try.prog 40 #[.pointer (some ⟨gt, 0, none⟩)] 1 (fun _ => keyErr (t.cols.getD 0 c40)) w0 := by
  intro W0 hW i hi
  obtain ⟨b, o, x, hca, hb, hx, hld⟩ := (h.cols.below hW).col h0
  obtain ⟨E, hE⟩ : ∃ E, Hid (keyErr (t.cols.getD 0 c40) = E) := ⟨_, rfl⟩
  have C : Hid (Calls Try.prog 41 #[.agg #[.string x.nm, .int .i64 x.k, .int .i64 x.t, .bool x.z]] W0 fun e w' => e = .returned (.int .i64 E) ∧ Below W0.heap.size W0 w') := by
    rw [← hE.out, getD_of hx]; exact keyAmiss_any x W0
  obtain ⟨c0, c1, c2, c3, c4, c5⟩ := tab_row (row_below ht hW)
  rw [hca] at c1
  obtain ⟨d0, d1, d2, d3⟩ := hld W0 (Below.refl _ _)
  rw [Nat.zero_mul, Nat.add_zero] at d0 d1 d2 d3
  have y1 : (0 : Int) < (t.nc : Int) := by omega
  show Calls _ _ _ _ fun e W' => e = .returned (.int .i64 (keyErr (t.cols.getD 0 c40))) ∧ _
  rw [hE.out]
  clear ht hW hE h hca hb hx hld
  go_enter Try.func40, Try.ntmps40
  go_wp2_with fail
  refine C.out.mono ?_
  rintro e w2 ⟨rfl, b2⟩
  have HB := Lib.hid b2
  clear b2 C
  go_wp2_with fail
  go_ret
  exact ⟨rfl, HB.out⟩
end Go.Proofs.Ytogfnjlhfbpneaa
