/- Several texts laid together: BasCmp, BasCat, BasLin. -/
import Derived.Test.YtfljhnalmiibeaaGreatMbBasTab
import Derived.Test.YtfljhnalmiibeaaGreatMbMulCmp
import Derived.Test.YtfljhnalmiibeaaGreatMbBasClone
import Derived.Shelf.Abstract
import Derived.Lib.AppendZerosOnto
namespace Go.Proofs.YtfljhnalmiibeaaGreat
set_option maxRecDepth 100000
open Go.RowKit
set_option maxHeartbeats 1600000 in
theorem compare13_any (a b : D2) (w : World) : Calls Tryz.prog 47 #[a.agg, b.agg] w fun e w' => e = .returned (.int .i64 (cmpD a b)) ∧ Grown w w' := by
  have P := Lib.hid (fun x y => cmpCompare_any x y)
  have OR := Lib.hid (fun (x y : Int) (W : World) => cmpOr_any x y (W.alloc (twoCells x y)).drew W.heap.size (row_drew (heap_alloc_new _ _)))
  have hg0 := ((Grown.refl w).alloc (dotRow a)).alloc (dotRow b)
  have hA := dot_row (show ((w.alloc (dotRow a)).alloc (dotRow b)).heap[w.heap.size]? = some (dotRow a) by rw [Below.heap_alloc _ _ _ (by simp)]; exact heap_alloc_new _ _)
  have hB := dot_row (show ((w.alloc (dotRow a)).alloc (dotRow b)).heap[w.heap.size + 1]? = some (dotRow b) by
    have := heap_alloc_new (w.alloc (dotRow a)) (dotRow b)
    rwa [World.size_alloc] at this)
  obtain ⟨c0, c1⟩ := hA; obtain ⟨c2, c3⟩ := hB
  obtain ⟨w1, hw1⟩ : ∃ w1, w1 = (w.alloc (dotRow a)).alloc (dotRow b) := ⟨_, rfl⟩
  rw [← hw1] at hg0 c0 c1 c2 c3
  have K : Hid (∀ W, Grown w1 W → W.cell? ⟨w.heap.size, 0, none⟩ = some (.int .i64 a.d) ∧ W.cell? ⟨w.heap.size, 1, none⟩ = some (.int .i64 a.s) ∧ W.cell? ⟨w.heap.size + 1, 0, none⟩ = some (.int .i64 b.d) ∧ W.cell? ⟨w.heap.size + 1, 1, none⟩ = some (.int .i64 b.s)) := by
    intro W hW
    have h1 : w.heap.size < w1.heap.size := by rw [hw1]; simp; omega
    have h2 : w.heap.size + 1 < w1.heap.size := by rw [hw1]; simp
    exact ⟨(hW.below.cell (p := ⟨_, 0, none⟩) h1).trans c0, (hW.below.cell (p := ⟨_, 1, none⟩) h1).trans c1, (hW.below.cell (p := ⟨_, 0, none⟩) h2).trans c2, (hW.below.cell (p := ⟨_, 1, none⟩) h2).trans c3⟩
  have hg1 := (Grown.refl w1).drew
  have HG0 := Lib.hid hg0
  clear hg0
  go_enter Tryz.func47, Tryz.ntmps47
  go_wp2_with fail
  rw [← hw1]
  clear hw1
  go_region_held3 (fun W => Grown w1 W ∧ W.cell? ⟨w.heap.size, 0, none⟩ = some (.int .i64 a.d) ∧ W.cell? ⟨w.heap.size, 1, none⟩ = some (.int .i64 a.s) ∧ W.cell? ⟨w.heap.size + 1, 0, none⟩ = some (.int .i64 b.d) ∧ W.cell? ⟨w.heap.size + 1, 1, none⟩ = some (.int .i64 b.s))
    (first
      | (refine ⟨?_, K.out _ ?_⟩ <;> (go_split_ands; (first | assumption | exact Grown.alloc (by assumption) _))))
    (first
      | (go_at_call 73; refine (P.out _ _ _).mono ?_; rintro e wx ⟨rfl, rfl⟩)
      | (go_at_call 72; refine (OR.out _ _ _).mono ?_; rintro e wx ⟨rfl, rfl⟩))
  all_goals
    go_wp2
    go_ret
    exact ⟨rfl, Grown.trans HG0.out (Grown.drew (Grown.alloc (Grown.refl _) _))⟩
theorem cmpD_over (a b : D2) : decide (0 < cmpD a b) = overD b a := by
  unfold cmpD overD sgnI
  repeat' (first | split | simp_all <;> omega)
set_option maxHeartbeats 1600000 in
theorem placeOfL_any (g : Nat) (cb : Array Value) (p : LnR → Bool) (A : Option Addr) (n c : Nat) (l : List LnR) (w : World) (eg : ∀ args w, (callFunc g args).run Tryz.prog w = .ok (.enter g args) w)
    (h : RdG LnR.cells 3 w A n c l) (hp : TellsG Tryz.prog g cb LnR.agg p w) :
    Calls Tryz.prog 65 #[.slice A n c, .func (.func g) #[] cb] w fun e w' => e = .returned (.int .i64 (l.findIdx p : Nat)) ∧ Below w.heap.size w w' := by
  have C := Lib.hid (indexFL_any g cb p A n c l w eg h hp)
  have hl := h.len
  have hle := h.le
  have h1 : l.findIdx p ≤ l.length := List.findIdx_le_length
  clear h hp
  obtain ⟨k, hk⟩ : ∃ k, l.findIdx p = k := ⟨_, rfl⟩
  rw [idxG, hk] at C
  rw [hk] at h1 ⊢
  rcases Nat.lt_or_ge k l.length with h2 | h2
  · rw [if_pos h2] at C
    have y0 : (0 : Int) ≤ (k : Int) := by omega
    clear h1 h2 hl hk
    go_enter Tryz.func65, Tryz.ntmps65
    go_wp2_with (go_at_call 106; refine C.out.mono ?_; rintro e w2 ⟨rfl, b2⟩)
    go_ret
    exact ⟨rfl, b2⟩
  · rw [if_neg (by omega)] at C
    obtain rfl : k = n := by omega
    clear h1 h2 hl hk
    go_enter Tryz.func65, Tryz.ntmps65
    go_wp2_with (go_at_call 106; refine C.out.mono ?_; rintro e w2 ⟨rfl, b2⟩)
    go_ret
    exact ⟨rfl, b2⟩
set_option maxHeartbeats 1600000 in
theorem placeOfD_any (g : Nat) (cb : Array Value) (p : D2 → Bool) (A : Option Addr) (n c : Nat) (l : List D2) (w : World) (eg : ∀ args w, (callFunc g args).run Tryz.prog w = .ok (.enter g args) w)
    (h : RdG D2.cells 2 w A n c l) (hp : TellsG Tryz.prog g cb D2.agg p w) :
    Calls Tryz.prog 49 #[.slice A n c, .func (.func g) #[] cb] w fun e w' => e = .returned (.int .i64 (l.findIdx p : Nat)) ∧ Below w.heap.size w w' := by
  have C := Lib.hid (indexFD_any g cb p A n c l w eg h hp)
  have hl := h.len
  have hle := h.le
  have h1 : l.findIdx p ≤ l.length := List.findIdx_le_length
  clear h hp
  obtain ⟨k, hk⟩ : ∃ k, l.findIdx p = k := ⟨_, rfl⟩
  rw [idxG, hk] at C
  rw [hk] at h1 ⊢
  rcases Nat.lt_or_ge k l.length with h2 | h2
  · rw [if_pos h2] at C
    have y0 : (0 : Int) ≤ (k : Int) := by omega
    clear h1 h2 hl hk
    go_enter Tryz.func49, Tryz.ntmps49
    go_wp2_with (go_at_call 76; refine C.out.mono ?_; rintro e w2 ⟨rfl, b2⟩)
    go_ret
    exact ⟨rfl, b2⟩
  · rw [if_neg (by omega)] at C
    obtain rfl : k = n := by omega
    clear h1 h2 hl hk
    go_enter Tryz.func49, Tryz.ntmps49
    go_wp2_with (go_at_call 76; refine C.out.mono ?_; rintro e w2 ⟨rfl, b2⟩)
    go_ret
    exact ⟨rfl, b2⟩
theorem Tryz.egLinesPlace : ∀ args w, (callFunc 105 args).run Tryz.prog w = .ok (.enter 105 args) w := enters_of Tryz.func105 (by kernel_rfl) rfl
theorem Tryz.egLinesWith : ∀ args w, (callFunc 66 args).run Tryz.prog w = .ok (.enter 66 args) w := enters_of Tryz.func66 (by kernel_rfl) rfl
theorem Tryz.egWrote13 : ∀ args w, (callFunc 46 args).run Tryz.prog w = .ok (.enter 46 args) w := enters_of Tryz.func46 (by kernel_rfl) rfl
theorem placeF1_any (k : Int) (g : Nat) (w0 : World) (h : w0.heap[g]? = some (.cells #[.int .i64 k] 3)) : TellsG Tryz.prog 105 #[.pointer (some ⟨g, 0, none⟩)] LnR.agg (fun x => decide (x.key = k)) w0 := by
  intro W hW x
  have b1 := below_new (Below.refl W.heap.size W) (lineBox x)
  have r1 := heap_alloc_new W (lineBox x)
  obtain ⟨w1, hw1⟩ : ∃ w1, w1 = W.alloc (lineBox x) := ⟨_, rfl⟩
  rw [← hw1] at b1 r1
  have HB := Lib.hid b1
  obtain ⟨d0, d1, d2⟩ := line_row r1
  have c0 : w1.cell? ⟨g, 0, none⟩ = some (.int .i64 k) := cell_row (row_below h (below_then hW b1)) 0
  clear r1 b1
  go_enter Tryz.func105, Tryz.ntmps105
  go_upto_region 1 with fail
  rw [show W.alloc (lineBox x) = w1 from hw1.symm]
  clear hw1
  go_wp2_with fail
  go_ret
  exact ⟨rfl, HB.out⟩
theorem withF1_any (y : LnR) (g : Nat) (w0 : World) (h : w0.heap[g]? = some (lineBox y)) : TellsG Tryz.prog 66 #[.pointer (some ⟨g, 0, none⟩)] LnR.agg (fun x => decide (y.key < x.key)) w0 := by
  intro W hW x
  have b1 := below_new (Below.refl W.heap.size W) (lineBox x)
  have r1 := heap_alloc_new W (lineBox x)
  obtain ⟨w1, hw1⟩ : ∃ w1, w1 = W.alloc (lineBox x) := ⟨_, rfl⟩
  rw [← hw1] at b1 r1
  have HB := Lib.hid b1
  obtain ⟨d0, d1, d2⟩ := line_row r1
  have c0 : w1.cell? ⟨g, 0, none⟩ = some (.int .i64 y.key) := cell_row (row_below h (below_then hW b1)) 0
  clear r1 b1
  go_enter Tryz.func66, Tryz.ntmps66
  go_upto_region 1 with fail
  rw [show W.alloc (lineBox x) = w1 from hw1.symm]
  clear hw1
  go_wp2_with fail
  go_ret
  exact ⟨rfl, HB.out⟩
theorem wroteF1_any (d : D2) (g : Nat) (w0 : World) (h : w0.heap[g]? = some (dotBox d)) : TellsG Tryz.prog 46 #[.pointer (some ⟨g, 0, none⟩)] D2.agg (overD d) w0 := by
  intro W hW x
  have b1 := below_new (Below.refl W.heap.size W) (dotBox x)
  have r1 := heap_alloc_new W (dotBox x)
  obtain ⟨w1, hw1⟩ : ∃ w1, w1 = W.alloc (dotBox x) := ⟨_, rfl⟩
  rw [← hw1] at b1 r1
  have HB := Lib.hid b1
  obtain ⟨d0, d1⟩ := dot_row13 r1
  have r2 := row_below h (below_then hW b1)
  obtain ⟨c0, c1⟩ := dot_row13 r2
  obtain ⟨q, hq⟩ : ∃ q, Hid (cmpD x d = q) := ⟨_, rfl⟩
  have C := Lib.hid (compare13_any x d w1)
  rw [hq.out] at C
  have HQ : Hid (overD d x = decide (0 < q)) := by show _ = _; rw [← hq.out, cmpD_over]
  rw [HQ.out]
  clear r1 b1 r2 hq HQ
  go_enter Tryz.func46, Tryz.ntmps46
  go_upto_region 1 with fail
  rw [show W.alloc (dotBox x) = w1 from hw1.symm]
  clear hw1
  go_wp2_with (go_at_call 47; refine C.out.mono ?_; rintro e w2 ⟨rfl, b2⟩)
  go_ret
  exact ⟨rfl, below_then HB.out b2.below⟩
/-- the first line of a key -/
theorem raw_place {L : List LnR} {l : List LQ} (p : LnR → Bool) (q : LQ → Bool) (h2 : L.length = l.length) (h : ∀ (j : Nat) (x : LnR) (y : LQ), L[j]? = some x → l[j]? = some y → p x = q y) : L.findIdx p = placeF q l := by
  unfold placeF
  induction L generalizing l with
  | nil => cases l with
    | nil => rfl
    | cons y l => simp at h2
  | cons x L ih => cases l with
    | nil => simp at h2
    | cons y l =>
      rw [List.findIdx_cons, List.findIdx_cons, h 0 x y rfl rfl, ih (by simpa using h2) (fun j x y hx hy => h (j + 1) x y hx hy)]
set_option maxHeartbeats 1600000 in
theorem linesPlace_any (A : Option Addr) (n c : Nat) (l : List LQ) (k : Int) (w : World) (h : RdLs w A n c l) :
    Calls Tryz.prog 64 #[.slice A n c, .int .i64 k] w fun e w' => e = .returned (.int .i64 (placeK l k : Nat)) ∧ Below w.heap.size w w' := by
  obtain ⟨L, h1, h2, h3⟩ := h
  have b1 := below_new (Below.refl w.heap.size w) (.cells #[.int .i64 k] 3)
  have r1 := heap_alloc_new w (.cells #[.int .i64 k] 3)
  have C := Lib.hid (placeOfL_any 105 #[.pointer (some ⟨w.heap.size, 0, none⟩)] (fun x => decide (x.key = k)) A n c L _ Tryz.egLinesPlace (h1.below b1) (placeF1_any k _ _ r1))
  rw [raw_place _ (keyIs k) h2 (fun j x y hx hy => by rw [(h3 j x y hx hy).1])] at C
  have HB := Lib.hid b1
  obtain ⟨z, hz⟩ : ∃ z, placeF (keyIs k) l = z := ⟨_, rfl⟩
  rw [placeK, hz]
  rw [hz] at C
  clear h1 h2 h3 b1 r1 hz
  go_enter Tryz.func64, Tryz.ntmps64
  go_wp2_with (go_at_call 65; refine C.out.mono ?_; rintro e w2 ⟨rfl, b2⟩)
  go_ret
  exact ⟨rfl, below_then HB.out b2⟩
set_option maxHeartbeats 3200000 in
theorem indexD_any (A : Option Addr) (n c : Nat) (l : List D2) (d : D2) (w : World) (h : RdD w A n c l) :
    Calls Tryz.prog 71 #[.slice A n c, d.agg] w fun e w' => e = .returned (.int .i64 (idxG (fun x => decide (d = x)) l)) ∧ Below w.heap.size w w' := by
  have hl := h.len
  have hle := h.le
  have HRD := Lib.hid h; have HL := Lib.hid hl
  clear h hl
  obtain ⟨w1, hw1⟩ : ∃ w1, w1 = w.alloc (dotBox d) := ⟨_, rfl⟩
  have hb1 : Below w.heap.size w w1 := by rw [hw1]; exact below_new (Below.refl _ _) _
  have hr1 : w1.heap[w.heap.size]? = some (dotBox d) := by rw [hw1]; exact heap_alloc_new _ _
  have HB1 := Lib.hid hb1; have HR1 := Lib.hid hr1; have HW := Lib.hid hw1
  obtain ⟨z, hz⟩ : ∃ z, Hid (idxG (fun x => decide (d = x)) l = z) := ⟨_, rfl⟩
  rw [hz.out]
  clear hb1 hr1 hw1
  go_enter Tryz.func71, Tryz.ntmps71
  go_upto_region 1 with fail
  rw [show w.alloc (dotBox d) = w1 from HW.out.symm]
  clear HW
  go_wp2_with fail
  go_loopw [8] (fun i wr => ∃ k : Nat, k ≤ n ∧ i = .int .i64 k ∧ Hid (∀ y ∈ l.take k, decide (d = y) = false) ∧ Hid (wr.heap[w.heap.size]? = some (dotBox d)) ∧ Hid (Below w.heap.size w wr)) (fun i _ => n - (intOf i).toNat)
  case atStart => exact ⟨0, Nat.zero_le _, rfl, by intro y hy; simp at hy, HR1, HB1⟩
  case round =>
    clear HR1 HB1
    obtain ⟨k, hk, rfl, hno, HR, HB⟩ := hrel
    by_cases hlt : k < n
    · obtain ⟨b, o, x, rfl, hb, hx, hld⟩ := HRD.out.dot hlt
      obtain ⟨d0, d1⟩ := hld _ HB.out
      obtain ⟨e0, e1⟩ := dot_row13 HR.out
      have k0 : ∀ p : BelowOf wr, p.W.cell? ⟨b, o + k * 2, none⟩ = _ := fun p => p.cell d0
      have k1 : ∀ p : BelowOf wr, p.W.cell? ⟨b, o + k * 2 + 1, none⟩ = _ := fun p => p.cell d1
      have k2 : ∀ p : BelowOf wr, p.W.cell? ⟨w.heap.size, 0, none⟩ = _ := fun p => p.cell e0
      have k3 : ∀ p : BelowOf wr, p.W.cell? ⟨w.heap.size, 1, none⟩ = _ := fun p => p.cell e1
      have y1 : (k : Int) < (n : Int) := by omega
      have y0 : (0 : Int) ≤ (k : Int) := by omega
      obtain ⟨q, hq⟩ : ∃ q, Hid (decide (d = x) = q) := ⟨_, rfl⟩
      have EQ : ∀ W, (Op.equalIn 10000 40 (.agg #[.int .i64 d.d, .int .i64 d.s]) (.agg #[.int .i64 x.d, .int .i64 x.s])).run Tryz.prog W = .ok q W := fun W => by rw [run_equalIn_dot, ← hq.out]
      have HX := Lib.hid hx
      clear hld hx hb d0 d1 e0 e1
      go_upto_region 4 with fail
      refine wp_region_quiet_below (by kernel_rfl) (by kernel_rfl) ?_
      repeat (first | (with_reducible refine wpQuiet_step (fun K hK => ?_); go_simp; first | (with_reducible refine hK _ ?_; clear hK K) | (apply Exists.intro; with_reducible refine ⟨fun _ => ?_, hK _ ?_⟩; (fail); clear hK K)) | (with_reducible refine wpQuiet_pass (by kernel_rfl) ?_; (try simp only [Act.put, List.setIfInBounds_toArray, List.set_cons_zero, List.set_cons_succ])))
      with_reducible refine wpQuiet_nil ?_
      rintro wq ⟨⟨_, hq_⟩, rfl⟩
      have HB2 := Lib.hid (below_then HB.out hq_)
      have HR2 := Lib.hid (row_below HR.out hq_)
      clear k0 k1 k2 k3 hq_
      cases q with
      | true =>
        have hfin : Hid ((k : Int) = z) := by
          show _ = _
          rw [← hz.out, idxG_hit (p := fun x => decide (d = x)) hno.out HX.out hq.out]
        go_wp2_with fail
        go_ret
        exact ⟨ret_int hfin.out, HB2.out⟩
      | false =>
        have hno2 : Hid (∀ y ∈ l.take (k + 1), decide (d = y) = false) := by show ∀ y ∈ _, _; exact noG_next (p := fun x => decide (d = x)) hno.out HX.out hq.out
        go_wp2_with fail
        exact ⟨⟨k + 1, by omega, by go_num, hno2, HR2, HB2⟩, by simp [intOf]; omega⟩
    · have hfin : Hid ((-1 : Int) = z) := by
        show _ = _
        have h1 := HL.out
        have h2 := hno.out
        rw [List.take_of_length_le (by omega)] at h2
        rw [← hz.out, idxG_miss (p := fun x => decide (d = x)) h2]
      have y1 : ¬ (k : Int) < (n : Int) := by omega
      go_wp2_with fail
      go_ret
      exact ⟨ret_int hfin.out, HB.out⟩
theorem idxG_mem (l : List D2) (d : D2) : decide (0 ≤ idxG (fun x => decide (d = x)) l) = decide (d ∈ l) := by
  unfold idxG
  split
  · rename_i h
    have := List.findIdx_getElem (p := fun x => decide (d = x)) (xs := l) (w := h)
    have e : d = l[l.findIdx fun x => decide (d = x)] := of_decide_eq_true this
    rw [decide_eq_true (by omega), decide_eq_true (by rw [e]; exact List.getElem_mem _)]
  · rename_i h
    rw [decide_eq_false (by omega), decide_eq_false]
    intro hm
    exact h (List.findIdx_lt_length_of_exists ⟨d, hm, by simp⟩)
theorem containsD_any (A : Option Addr) (n c : Nat) (l : List D2) (d : D2) (w : World) (h : RdD w A n c l) :
    Calls Tryz.prog 45 #[.slice A n c, d.agg] w fun e w' => e = .returned (.bool (decide (d ∈ l))) ∧ Below w.heap.size w w' := by
  rw [← idxG_mem]
  obtain ⟨z, hz⟩ : ∃ z, Hid (idxG (fun x => decide (d = x)) l = z) := ⟨_, rfl⟩
  have b1 := below_new (Below.refl w.heap.size w) (dotBox d)
  obtain ⟨w1, hw1⟩ : ∃ w1, w1 = w.alloc (dotBox d) := ⟨_, rfl⟩
  have hr1 : w1.heap[w.heap.size]? = some (dotBox d) := by rw [hw1]; exact heap_alloc_new _ _
  rw [← hw1] at b1
  have C := Lib.hid (indexD_any A n c l d w1 (h.below b1))
  rw [hz.out] at C
  rw [hz.out]
  have HB := Lib.hid b1
  obtain ⟨d0, d1⟩ := dot_row13 hr1
  clear h b1 hz hr1
  go_enter Tryz.func45, Tryz.ntmps45
  go_upto_region 1 with fail
  rw [show w.alloc (dotBox d) = w1 from hw1.symm]
  clear hw1
  go_wp2_with (go_at_call 71; refine C.out.mono ?_; rintro e w2 ⟨rfl, b2⟩)
  go_ret
  exact ⟨rfl, below_then HB.out b2⟩
end Go.Proofs.YtfljhnalmiibeaaGreat

namespace Go.Proofs.YtfljhnalmiibeaaGreat
set_option maxRecDepth 100000
open Go.RowKit
/-- what reads as parts, put behind a row of parts of the call's own -/
theorem run_appPL {w W0 : World} (base : Nat) (v : Value) (n : Nat) (l : List LnR) (A : Option Addr) (m c : Nat) (news : List LnR)
    (hown : w.ownsRow base 37 3 v n (l.flatMap LnR.cells)) (hrd : RdG LnR.cells 3 w A m c news) (hn : n + m ≤ 4294967296) (hbel : Below base W0 w) (hbase : base ≤ w.heap.size) (ty : TypeId) :
    ∃ v' w', (Builtin.append_ #[81, 81] ty #[v, .slice A m c]).run Tryz.prog w = .ok v' w' ∧ w'.ownsRow base 37 3 v' (n + m) ((l ++ news).flatMap LnR.cells) ∧ Below base W0 w' ∧ base ≤ w'.heap.size := by
  obtain ⟨i0, hi0, hz0, hz1, hz2⟩ := info_parts Tryz.infoLine
  by_cases hm : m = 0
  · subst hm
    have he : news = [] := List.eq_nil_of_length_eq_zero hrd.len
    subst he
    refine ⟨v, w, ?_, by simpa using hown, hbel, hbase⟩
    rcases hown.2 with ⟨rfl, rfl⟩ | ⟨g, cap, cur, rfl, _, _, hnc, _⟩
    · exact run_append_zero w 81 ty 37 i0 Tryz.underlying81 hi0 _ _ _ _ _ (Nat.le_refl _)
    · exact run_append_zero w 81 ty 37 i0 Tryz.underlying81 hi0 _ _ _ _ _ hnc
  · obtain ⟨b, o, rfl, hb⟩ := hrd.hsize (by omega)
    obtain ⟨v', w', hr, hown', hgrow, _⟩ := run_append_own (P := Tryz.prog) w base 81 ty 37 i0 _ 3 56 Tryz.underlying81 hi0 hz0 hz1 hz2 rfl (by omega) v n (l.flatMap LnR.cells) hown ⟨b, o, none⟩ m c (news.flatMap LnR.cells) (by rw [flat_len lnRlen, hrd.len]) (rdg_cells lnRlen hrd)
      (fun u hu => by rw [List.mem_flatMap] at hu; obtain ⟨p, _, hp⟩ := hu; exact lnRone p u hp) (by simp only [maxLen]; omega) (by omega) hbase
    exact ⟨v', w', hr, by rw [List.flatMap_append]; exact hown', hbel.grown hgrow hbase (fun k hk => (hown.lt k hk).1), by have := hgrow.size; omega⟩
theorem run_zerosPL (k : Nat) (h0 : 1 ≤ k) (hk : k ≤ 4294967296) (w : World) (ty : TypeId) : ∃ G W1, (Builtin.append_ #[81, 3] ty #[.slice none 0 0, .int .i64 k]).run Tryz.prog w = .ok (.slice (some ⟨w.heap.size, 0, none⟩) k G) W1
    ∧ W1.ownsRow w.heap.size 37 3 (.slice (some ⟨w.heap.size, 0, none⟩) 0 G) 0 [] ∧ Below w.heap.size w W1 ∧ k ≤ G ∧ G ≤ maxLen := by
  obtain ⟨i0, hi0, hz0, hzs, hzb⟩ := info_parts Tryz.infoLine
  obtain ⟨ZZ, hZZ⟩ : ∃ ZZ : Value, ZZ = .agg #[.int .i64 0, .slice none 0 0, .slice none 0 0] := ⟨_, rfl⟩
  have hZs : ZZ.cells.size = 3 := by rw [hZZ]; rfl
  rw [← hZZ] at hz0
  have h := Lib.run_append_nil_zeros w 81 3 ty 37 i0 _ .i64 .i64 Tryz.underlying81 Tryz.underlying3 hi0 hz0 k (by omega) (by omega) (by omega) (by rw [hzb]; omega)
  have hge := grownCap_ge w k 0 37
  have hcm : grownCap w k 0 37 ≤ maxLen := grownCap_le_maxLen w k 0 37 (by simp only [maxLen]; omega)
  have hzl : ∀ q, (Builtin.zeroCells ZZ.cells q).size = q * 3 := fun q => by simp [Builtin.zeroCells, hZs]
  refine ⟨_, _, h, ?_, ?_, hge, hcm⟩
  · exact World.ownsRow_made w.drew _ _ (Nat.le_refl _) hcm (by rw [Array.size_append, hzl, hzl, ← Nat.add_mul]; congr 1; omega)
  · exact ((Below.refl _ _).drew).alloc (Nat.le_refl _) _
set_option maxHeartbeats 1600000 in
theorem growNil_anyL (k : Nat) (h0 : 1 ≤ k) (hk : k ≤ 4294967296) (w : World) :
    Calls Tryz.prog 107 #[.slice none 0 0, .int .i64 k] w fun e w' => ∃ v, e = .returned v ∧ w'.ownsRow w.heap.size 37 3 v 0 (([] : List LnR).flatMap LnR.cells) ∧ Below w.heap.size w w' := by
  obtain ⟨G, W1, hr, hown, hb, hG, hGm⟩ := run_zerosPL k h0 hk w 81
  have HO := Lib.hid hown; have HB := Lib.hid hb
  have z1 : ¬ ((k : Int) < 0) := by omega
  have z2 : (0 : Int) < (k : Int) := by omega
  have z3 : IntKind.i64.wrap ((k : Int) - 0) = (k : Int) := by rw [Int.sub_zero]; exact wrap_is (by omega)
  have z4 : IntKind.i64.wrap (k : Int) = (k : Int) := wrap_is (by omega)
  have z5 : 0 < k := h0
  clear hown hb
  go_enter Tryz.func107, Tryz.ntmps107
  go_wp2_with (at_builtin; refine Lib.wpList_append_run _ rfl _ _ _ _ rfl _ _ rfl rfl _ _ hr ?_)
  go_ret
  exact ⟨_, rfl, HO.out, HB.out⟩
theorem grow0L_any (w : World) : Calls Tryz.prog 107 #[.slice none 0 0, .int .i64 0] w fun e w' => e = .returned (.slice none 0 0) ∧ w' = w := by
  go_enter Tryz.func107, Tryz.ntmps107
  go_wp2_with fail
  go_ret
  exact ⟨rfl, rfl⟩
theorem growAllL_any (k : Nat) (hk : k ≤ 4294967296) (w : World) : Calls Tryz.prog 107 #[.slice none 0 0, .int .i64 k] w fun e w' => ∃ v, e = .returned v ∧ w'.ownsRow w.heap.size 37 3 v 0 (([] : List LnR).flatMap LnR.cells) ∧ Below w.heap.size w w' := by
  rcases Nat.eq_zero_or_pos k with rfl | h0
  · refine (grow0L_any w).mono ?_
    rintro e w' ⟨rfl, rfl⟩
    exact ⟨_, rfl, ⟨rfl, .inl ⟨rfl, rfl⟩⟩, Below.refl _ _⟩
  · exact growNil_anyL k h0 hk w
/-- rows of rows, as they are handed to Concat -/
abbrev RdRowsL (w : World) (A : Option Addr) (n c : Nat) (ls : List (List LnR)) : Prop := RdR SlR.cells 1 (fun w x y => RdG LnR.cells 3 w x.a x.n x.c y) w A n c ls
set_option maxHeartbeats 6400000 in
theorem concatL_any (A : Option Addr) (m c : Nat) (ls : List (List LnR)) (w : World) (h : RdRowsL w A m c ls) (hn : ls.flatten.length ≤ 4294967296) :
    Calls Tryz.prog 67 #[.slice A m c] w fun e w' => ∃ v, e = .returned v ∧ w'.ownsRow w.heap.size 37 3 v ls.flatten.length (ls.flatten.flatMap LnR.cells) ∧ Below w.heap.size w w' := by
  have HN := Lib.hid hn; have HR := Lib.hid h; have HL := Lib.hid h.len
  have hle := h.le
  have HS : Hid (∀ k x, ls[k]? = some x → (ls.take (k + 1)).flatten.length = (ls.take k).flatten.length + x.length) := by
    show ∀ k x, _; intro k x hx; rw [List.take_add_one, hx]; simp
  have HT : Hid (∀ k, (ls.take k).flatten.length ≤ 4294967296) := by
    show ∀ k, _; intro k
    have : ls.flatten.length = (ls.take k).flatten.length + (ls.drop k).flatten.length := by rw [← List.length_append, ← List.flatten_append, List.take_append_drop]
    omega
  have HE : Hid (∀ k x, ls[k]? = some x → (ls.take (k + 1)).flatten = (ls.take k).flatten ++ x) := by
    show ∀ k x, _; intro k x hx; rw [List.take_add_one, hx]; simp
  obtain ⟨Z, hZ⟩ : ∃ Z, Hid (ls.flatten = Z) := ⟨_, rfl⟩
  obtain ⟨N, hN⟩ : ∃ N, Hid (Z.length = N) := ⟨_, rfl⟩
  have HF : Hid ((ls.take m).flatten = Z) := by show _ = _; rw [List.take_of_length_le (by rw [HL.out]; exact Nat.le_refl _), hZ.out]
  have HNN : Hid (N ≤ 4294967296) := by show _ ≤ _; rw [← hN.out, ← hZ.out]; exact hn
  rw [hZ.out, hN.out]
  clear h hn
  go_enter Tryz.func67, Tryz.ntmps67
  go_wp2_with fail
  go_loopw [3, 11] (fun s i wr => ∃ k q : Nat, k ≤ m ∧ i = .int .i64 k ∧ s = .int .i64 q ∧ Hid ((ls.take k).flatten.length = q) ∧ wr = w) (fun _ i _ => m - (intOf i).toNat)
  case atStart => exact ⟨0, 0, by omega, rfl, rfl, by show _ = _; simp, rfl⟩
  case round =>
    obtain ⟨k, q, hk, rfl, rfl, hq, rfl⟩ := hrel
    by_cases hlt : k < m
    · obtain ⟨b, o, x, y, rfl, hb, hx, hr, hc⟩ := HR.out.at_ hlt
      have d0 := hc 0 _ rfl
      rw [Nat.mul_one, Nat.add_zero] at d0
      have h1 := HS.out k y hx
      have h2 := HT.out (k + 1)
      have h3 := hr.len
      have h4 := hq.out
      obtain ⟨z, hz⟩ : ∃ z, q + x.n = z := ⟨_, rfl⟩
      have hq2 : Hid ((ls.take (k + 1)).flatten.length = z) := by show _ = _; omega
      have e1 : IntKind.i64.wrap ((q : Int) + (x.n : Int)) = (z : Int) := by rw [wrap_is (by omega)]; omega
      have e2 : ¬ ((z : Int) < 0) := by omega
      have y1 : (k : Int) < (m : Int) := by omega
      have y0 : (0 : Int) ≤ (k : Int) := by omega
      clear hc hr hx h1 h2 h3 h4 hb hz
      go_wp2_with fail
      exact ⟨⟨k + 1, z, by omega, by go_num, by go_num, hq2, by trivial⟩, by simp [intOf]; omega⟩
    · obtain rfl : k = m := by omega
      have y1 : ¬ (k : Int) < (k : Int) := by omega
      have hqq := hq.out
      rw [HF.out, hN.out] at hqq
      have GR : Hid (∀ W, Calls Tryz.prog 107 #[.slice none 0 0, .int .i64 q] W fun e w' => ∃ v, e = .returned v ∧ w'.ownsRow W.heap.size 37 3 v 0 (([] : List LnR).flatMap LnR.cells) ∧ Below W.heap.size W w') := by
        show ∀ W, _; intro W; exact growAllL_any q (by have := HNN.out; omega) W
      clear hq hqq
      go_wp2_with (go_at_call 107; refine (GR.out _).mono ?_; rintro e w2 ⟨v2, rfl, hown2, b2⟩)
      have HO := Lib.hid hown2; have HB := Lib.hid b2
      clear hown2 b2 GR
      obtain ⟨w0, rfl⟩ : ∃ w0, w0 = wr := ⟨_, rfl⟩
      go_loopw [6, 27] (fun v i wr => ∃ (j : Nat), j ≤ k ∧ i = .int .i64 j ∧ Hid (wr.ownsRow w0.heap.size 37 3 v (ls.take j).flatten.length ((ls.take j).flatten.flatMap LnR.cells)) ∧ Hid (Below w0.heap.size w0 wr)) (fun _ i _ => k - (intOf i).toNat)
      case atStart => exact ⟨0, by omega, rfl, by show World.ownsRow _ _ _ _ _ _ _; simpa using HO.out, HB⟩
      case round =>
        clear HO HB
        obtain ⟨j, hj, rfl, HO, HB⟩ := hrel
        by_cases hlt2 : j < k
        · obtain ⟨b, o, x, y, rfl, hb, hx, hr, hc⟩ := HR.out.at_ hlt2
          have d0 := hc 0 _ rfl
          rw [Nat.mul_one, Nat.add_zero] at d0
          have d1 : wr.cell? ⟨b, o + j, none⟩ = some (.slice x.a x.n x.c) := (HB.out.cell (p := ⟨b, o + j, none⟩) hb).trans d0
          have h1 := HS.out j y hx
          have h2 := HT.out (j + 1)
          have h3 := hr.len
          obtain ⟨v', w', hr', hown, hb', hs'⟩ := run_appPL (W0 := w0) w0.heap.size u6 (ls.take j).flatten.length ((ls.take j).flatten) x.a x.n x.c y HO.out (hr.below HB.out) (by omega) HB.out HB.out.size 81
          have HO2 : Hid (w'.ownsRow w0.heap.size 37 3 v' (ls.take (j + 1)).flatten.length ((ls.take (j + 1)).flatten.flatMap LnR.cells)) := by show World.ownsRow _ _ _ _ _ _ _; rw [h1, HE.out j y hx, h3]; exact hown
          have HB2 := Lib.hid hb'
          have z1 : (j : Int) < (k : Int) := by omega
          have z0 : (0 : Int) ≤ (j : Int) := by omega
          clear hown hb' hs' HO hc hr hx h1 h2 h3 hb d0
          go_wp2_with (at_builtin; refine Lib.wpList_append_run _ rfl _ _ _ _ rfl _ _ rfl rfl _ _ hr' ?_)
          exact ⟨⟨j + 1, by omega, by go_num, HO2, HB2⟩, by simp [intOf]; omega⟩
        · obtain rfl : j = k := by omega
          have z1 : ¬ (j : Int) < (j : Int) := by omega
          rw [HF.out, hN.out] at HO
          go_wp2_with fail
          go_ret
          exact ⟨_, rfl, HO.out, HB.out⟩
end Go.Proofs.YtfljhnalmiibeaaGreat

namespace Go.Proofs.YtfljhnalmiibeaaGreat
set_option maxRecDepth 100000
open Go.RowKit
def AllR (w : World) (L : List LnR) (l : List LQ) : Prop := L.length = l.length ∧ ∀ (j : Nat) (x : LnR) (y : LQ), L[j]? = some x → l[j]? = some y → LineR w x y
theorem AllR.sees {w w' : World} {L : List LnR} {l : List LQ} (h : AllR w L l) (b : Sees w w') : AllR w' L l := ⟨h.1, fun j x y hx hy => lineR_keeps _ _ _ _ (h.2 j x y hx hy) b⟩
theorem AllR.below {w w' : World} {L : List LnR} {l : List LQ} (h : AllR w L l) (b : Below w.heap.size w w') : AllR w' L l := ⟨h.1, fun j x y hx hy => (h.2 j x y hx hy).below b⟩
theorem AllR.take {w : World} {L : List LnR} {l : List LQ} (h : AllR w L l) (k : Nat) : AllR w (L.take k) (l.take k) := by
  refine ⟨by simp only [List.length_take, h.1], fun j x y hx hy => ?_⟩
  rw [List.getElem?_take] at hx hy
  split at hx
  · rename_i e; rw [if_pos e] at hy; exact h.2 j x y hx hy
  · cases hx
theorem AllR.drop {w : World} {L : List LnR} {l : List LQ} (h : AllR w L l) (k : Nat) : AllR w (L.drop k) (l.drop k) := by
  refine ⟨by simp only [List.length_drop, h.1], fun j x y hx hy => ?_⟩
  rw [List.getElem?_drop] at hx hy
  exact h.2 _ x y hx hy
theorem AllR.append {w : World} {L M : List LnR} {l m : List LQ} (h : AllR w L l) (h2 : AllR w M m) : AllR w (L ++ M) (l ++ m) := by
  refine ⟨by simp only [List.length_append, h.1, h2.1], fun j x y hx hy => ?_⟩
  rw [List.getElem?_append] at hx hy
  split at hx
  · rename_i e; rw [if_pos (by have := h.1; omega)] at hy; exact h.2 j x y hx hy
  · rename_i e; rw [if_neg (by have := h.1; omega)] at hy; rw [h.1] at hx; exact h2.2 _ x y hx hy
theorem AllR.cons {w : World} {L : List LnR} {l : List LQ} {x : LnR} {y : LQ} (hx : LineR w x y) (h : AllR w L l) : AllR w (x :: L) (y :: l) := by
  refine ⟨by simp only [List.length_cons, h.1], fun j u v hu hv => ?_⟩
  cases j with
  | zero => simp at hu hv; subst hu hv; exact hx
  | succ j => exact h.2 j u v (by simpa using hu) (by simpa using hv)
theorem AllR.reads {w' : World} {A : Option Addr} {n c : Nat} {L : List LnR} {l : List LQ} (h : AllR w' L l) (hr : RdG LnR.cells 3 w' A n c L) : RdLs w' A n c l := ⟨L, hr, h.1, h.2⟩
theorem Tryz.linesT : Tryz.prog.underlying 81 = some (.slice (Tryz.prog.elem 81)) := by kernel_rfl
theorem Tryz.linesZ : ∀ W, (sizeOf (Tryz.prog.elem 81)).run Tryz.prog W = .ok 3 W := fun W => by kernel_rfl
abbrev catBox3 (X Y Z : Value) : Obj := .cells #[X, Y, Z] 81
abbrev catBox2 (X Y : Value) : Obj := .cells #[X, Y] 81
theorem rows3 {w : World} {g : Nat} {x y z : SlR} {l1 l2 l3 : List LnR} (h : w.heap[g]? = some (catBox3 (.slice x.a x.n x.c) (.slice y.a y.n y.c) (.slice z.a z.n z.c))) (h1 : RdG LnR.cells 3 w x.a x.n x.c l1) (h2 : RdG LnR.cells 3 w y.a y.n y.c l2) (h3 : RdG LnR.cells 3 w z.a z.n z.c l3) :
    RdRowsL w (some ⟨g, 0, none⟩) 3 3 [l1, l2, l3] := by
  refine ⟨[x, y, z], ⟨rfl, Nat.le_refl _, by simp only [maxLen]; omega, fun _ => ⟨g, 0, rfl, (Array.getElem?_eq_some_iff.1 h).1, ?_⟩⟩, rfl, ?_⟩
  · have hc := cell_row h
    intro j hj i v hv
    match j, hj with
    | 0, _ => match i, hv with
      | 0, hv => rw [hc]; exact hv
      | i + 1, hv => simp [SlR.cells] at hv
    | 1, _ => match i, hv with
      | 0, hv => rw [hc]; exact hv
      | i + 1, hv => simp [SlR.cells] at hv
    | 2, _ => match i, hv with
      | 0, hv => rw [hc]; exact hv
      | i + 1, hv => simp [SlR.cells] at hv
  · intro j u v hu hv
    match j with
    | 0 => simp at hu hv; subst hu hv; exact h1
    | 1 => simp at hu hv; subst hu hv; exact h2
    | 2 => simp at hu hv; subst hu hv; exact h3
    | j + 3 => simp at hu
theorem rows2 {w : World} {g : Nat} {x y : SlR} {l1 l2 : List LnR} (h : w.heap[g]? = some (catBox2 (.slice x.a x.n x.c) (.slice y.a y.n y.c))) (h1 : RdG LnR.cells 3 w x.a x.n x.c l1) (h2 : RdG LnR.cells 3 w y.a y.n y.c l2) :
    RdRowsL w (some ⟨g, 0, none⟩) 2 2 [l1, l2] := by
  refine ⟨[x, y], ⟨rfl, Nat.le_refl _, by simp only [maxLen]; omega, fun _ => ⟨g, 0, rfl, (Array.getElem?_eq_some_iff.1 h).1, ?_⟩⟩, rfl, ?_⟩
  · have hc := cell_row h
    intro j hj i v hv
    match j, hj with
    | 0, _ => match i, hv with
      | 0, hv => rw [hc]; exact hv
      | i + 1, hv => simp [SlR.cells] at hv
    | 1, _ => match i, hv with
      | 0, hv => rw [hc]; exact hv
      | i + 1, hv => simp [SlR.cells] at hv
  · intro j u v hu hv
    match j with
    | 0 => simp at hu hv; subst hu hv; exact h1
    | 1 => simp at hu hv; subst hu hv; exact h2
    | j + 2 => simp at hu
/-- lines from two parts and one between, put together -/
theorem cat3_any (A : Option Addr) (n c : Nat) (L : List LnR) (l : List LQ) (f q : Nat) (hf : f ≤ n) (hq : q ≤ n) (hfq : f ≤ q) (hn : n ≤ 4294967000) (y : LQ) (hi : Nat) (w0 W : World) (hw : Below w0.heap.size w0 W) (hhi : hi ≤ W.heap.size) (h : RdG LnR.cells 3 w0 A n c L) (ha : AllR w0 L l) (z : LnR) (hz : ∀ U, Agree w0.heap.size hi W U → LineR U z y) :
    Calls Tryz.prog 67 #[.slice (some ⟨W.heap.size + 1, 0, none⟩) 3 3] ((W.alloc (lineBox z)).alloc (catBox3 (.slice A f c) (.slice (some ⟨W.heap.size, 0, none⟩) 1 1) (.slice (fromG 3 A c q) (n - q) (c - q)))) fun e w' =>
      ∃ x : SlR, e = .returned (.slice x.a x.n x.c) ∧ (∀ U, Agree w0.heap.size hi w' U → RdLs U x.a x.n x.c (l.take f ++ y :: l.drop q)) ∧ Below W.heap.size W w' := by
  obtain ⟨W1, hW1⟩ : ∃ W1, W1 = W.alloc (lineBox z) := ⟨_, rfl⟩
  have bW1 : Below W.heap.size W W1 := by rw [hW1]; exact below_new (Below.refl _ _) _
  have rW1 : W1.heap[W.heap.size]? = some (lineBox z) := by rw [hW1]; exact heap_alloc_new _ _
  have sW1 : W1.heap.size = W.heap.size + 1 := by rw [hW1]; simp only [World.size_alloc]
  rw [← hW1]
  obtain ⟨W2, hW2⟩ : ∃ W2, W2 = W1.alloc (catBox3 (.slice A f c) (.slice (some ⟨W.heap.size, 0, none⟩) 1 1) (.slice (fromG 3 A c q) (n - q) (c - q))) := ⟨_, rfl⟩
  have bW2 : Below W1.heap.size W1 W2 := by rw [hW2]; exact below_new (Below.refl _ _) _
  have rW2 : W2.heap[W.heap.size + 1]? = some (catBox3 (.slice A f c) (.slice (some ⟨W.heap.size, 0, none⟩) 1 1) (.slice (fromG 3 A c q) (n - q) (c - q))) := by rw [hW2, ← sW1]; exact heap_alloc_new _ _
  rw [← hW2]
  have hl := h.len
  have hc := h.cap
  have hmc := h.2.2.1
  have bb : Below w0.heap.size w0 W2 := below_then (below_then hw bW1) bW2
  have k1 : RdG LnR.cells 3 W2 A f c (L.take f) := (h.below bb).upto hf (by omega) (Nat.le_refl _)
  have k3 : RdG LnR.cells 3 W2 (fromG 3 A c q) (n - q) (c - q) (L.drop q) := rdg_from (h.below bb) hq
  have k2 : RdG LnR.cells 3 W2 (some ⟨W.heap.size, 0, none⟩) 1 1 [z] := by
    have := rdg_new lnRlen W [z] #[.int .i64 z.key, .slice z.ca z.cn z.cc, .slice z.ba z.bn z.bc] 37 (n := 1) (g := W.heap.size) rfl rfl (by omega) rfl
    rw [← show W1 = W.alloc (.cells #[.int .i64 z.key, .slice z.ca z.cn z.cc, .slice z.ba z.bn z.bc] 37) from hW1] at this
    exact this.below bW2
  refine (concatL_any _ 3 3 [L.take f, [z], L.drop q] W2 (rows3 (x := ⟨A, f, c⟩) (y := ⟨_, 1, 1⟩) (z := ⟨_, n - q, c - q⟩) rW2 k1 k2 k3) (by simp; omega)).mono ?_
  rintro e w' ⟨v, rfl, ho, hb⟩
  obtain ⟨A', c', rfl, hrd⟩ := RdG.own_ lnRlen (by omega) ho
  have b3 : Below W.heap.size W w' := below_then (below_then bW1 bW2) hb
  have hsz : hi ≤ W2.heap.size := by have := bW1.size; have := bW2.size; omega
  refine ⟨⟨A', _, c'⟩, rfl, fun U hU => ?_, b3⟩
  have hrd2 := rdg_agree hrd (fun _ a ha2 => .inr (by have := (ho.lt a.block (by rw [ha2]; rfl)).1; omega)) hU
  have he : [L.take f, [z], L.drop q].flatten = L.take f ++ z :: L.drop q := by simp
  rw [he] at hrd2 ⊢
  have hs : Sees w0 U := hU.sees (sees_below (below_then hw b3))
  exact (((ha.take f).sees hs).append (AllR.cons (hz U ((Agree.below b3).trans hU)) ((ha.drop q).sees hs))).reads hrd2
theorem cat2_any (A : Option Addr) (n c : Nat) (L : List LnR) (l : List LQ) (f q : Nat) (hf : f ≤ n) (hq : q ≤ n) (hfq : f ≤ q) (hn : n ≤ 4294967000) (hi : Nat) (w0 W : World) (hw : Below w0.heap.size w0 W) (hhi : hi ≤ W.heap.size) (h : RdG LnR.cells 3 w0 A n c L) (ha : AllR w0 L l) :
    Calls Tryz.prog 67 #[.slice (some ⟨W.heap.size, 0, none⟩) 2 2] (W.alloc (catBox2 (.slice A f c) (.slice (fromG 3 A c q) (n - q) (c - q)))).drew fun e w' =>
      ∃ x : SlR, e = .returned (.slice x.a x.n x.c) ∧ (∀ U, Agree w0.heap.size hi w' U → RdLs U x.a x.n x.c (l.take f ++ l.drop q)) ∧ Below W.heap.size W w' := by
  obtain ⟨W2, hW2⟩ : ∃ W2, W2 = (W.alloc (catBox2 (.slice A f c) (.slice (fromG 3 A c q) (n - q) (c - q)))).drew := ⟨_, rfl⟩
  have bW2 : Below W.heap.size W W2 := by rw [hW2]; exact (below_new (Below.refl _ _) _).drew
  have rW2 : W2.heap[W.heap.size]? = some (catBox2 (.slice A f c) (.slice (fromG 3 A c q) (n - q) (c - q))) := by rw [hW2]; exact row_drew (heap_alloc_new _ _)
  rw [← hW2]
  have hl := h.len
  have hc := h.cap
  have k1 : RdG LnR.cells 3 W2 A f c (L.take f) := (h.below (below_then hw bW2)).upto hf (by omega) (Nat.le_refl _)
  have k3 : RdG LnR.cells 3 W2 (fromG 3 A c q) (n - q) (c - q) (L.drop q) := rdg_from (h.below (below_then hw bW2)) hq
  refine (concatL_any _ 2 2 [L.take f, L.drop q] W2 (rows2 (x := ⟨A, f, c⟩) (y := ⟨_, n - q, c - q⟩) rW2 k1 k3) (by simp; omega)).mono ?_
  rintro e w' ⟨v, rfl, ho, hb⟩
  obtain ⟨A', c', rfl, hrd⟩ := RdG.own_ lnRlen (by omega) ho
  have b3 : Below W.heap.size W w' := below_then bW2 hb
  have hsz : hi ≤ W2.heap.size := by have := bW2.size; omega
  refine ⟨⟨A', _, c'⟩, rfl, fun U hU => ?_, b3⟩
  have hrd2 := rdg_agree hrd (fun _ a ha2 => .inr (by have := (ho.lt a.block (by rw [ha2]; rfl)).1; omega)) hU
  have he : [L.take f, L.drop q].flatten = L.take f ++ L.drop q := by simp
  rw [he] at hrd2 ⊢
  have hs : Sees w0 U := hU.sees (sees_below (below_then hw b3))
  exact (((ha.take f).sees hs).append ((ha.drop q).sees hs)).reads hrd2
set_option maxHeartbeats 3200000 in
theorem without_any (A : Option Addr) (n c : Nat) (l : List LQ) (k : Int) (w0 w : World) (h : RdLs w0 A n c l) (hw : Below w0.heap.size w0 w) (hn : n ≤ 4294967000) :
    Calls Tryz.prog 42 #[.slice A n c, .int .i64 k] w fun e w' => ∃ x : SlR, e = .returned (.slice x.a x.n x.c) ∧ (∀ U, Agree w0.heap.size w.heap.size w' U → RdLs U x.a x.n x.c (dropL l k)) ∧ Below w.heap.size w w' := by
  have C := Lib.hid (linesPlace_any A n c l k w (h.below lineR_keeps hw))
  have hlen := h.len
  have hcap := h.cap
  have HR := Lib.hid h
  have HW0 := Lib.hid hw
  obtain ⟨L, h1, h2, h3⟩ := h
  obtain ⟨f, hf⟩ : ∃ f, Hid (placeK l k = f) := ⟨_, rfl⟩
  have hfn : f ≤ n := by rw [← hf.out, ← hlen]; exact placeF_le _ _
  rw [hf.out] at C
  have H1 := Lib.hid h1; have HA : Hid (AllR w0 L l) := ⟨h2, h3⟩
  clear h1 h2 h3 hw
  obtain ⟨d, hd⟩ : ∃ d, Hid (dropL l k = d) := ⟨_, rfl⟩
  rw [hd.out]
  have y0 : (0 : Int) ≤ (f : Int) := by omega
  have y1 : (f : Int) ≤ (n : Int) := by omega
  by_cases hfe : f = n
  · have HD : Hid (d = l) := by show _ = _; rw [← hd.out]; unfold dropL; rw [if_pos (by rw [hf.out, hlen]; exact hfe)]
    have e1 : ((f : Int) == (n : Int)) = true := by rw [hfe]; simp
    have e2 : (f : Int) = (n : Int) := by omega
    clear hfe
    go_enter Tryz.func42, Tryz.ntmps42
    go_wp2_with (go_at_call 64; refine C.out.mono ?_; rintro e w2 ⟨rfl, b2⟩)
    go_ret
    exact ⟨⟨A, n, c⟩, rfl, fun U hU => by rw [HD.out]; exact HR.out.sees lineR_keeps (hU.sees (sees_below (below_then HW0.out b2))), b2⟩
  · have HD : Hid (d = l.take f ++ l.drop (f + 1)) := by show _ = _; rw [← hd.out]; unfold dropL; rw [if_neg (by rw [hf.out, hlen]; exact hfe), hf.out]
    have e1 : ((f : Int) == (n : Int)) = false := by rw [beq_eq_false_iff_ne]; omega
    have e2 : ¬ (f : Int) = (n : Int) := by omega
    have hle : n ≤ 9223372036854775807 := by omega
    have s1 := run_uptoG (P := Tryz.prog) Tryz.linesT Tryz.linesZ (A := A) (n := n) (c := c) (m := f) (by omega)
    have s2 := run_fromG (P := Tryz.prog) Tryz.linesT Tryz.linesZ (A := A) (n := n) (c := c) (q := f + 1) (by omega) hcap
    have z1 : IntKind.i64.wrap ((f : Int) + 1) = (f : Int) + 1 := wrap_is (by omega)
    have s2' : ∀ W, (Instr.slice 81 (.slice A n c) (some (.int .i64 ((f : Int) + 1))) none none).run Tryz.prog W = .ok (.slice (fromG 3 A c (f + 1)) (n - (f + 1)) (c - (f + 1))) W := s2
    go_enter Tryz.func42, Tryz.ntmps42
    go_upto_region 4 with (go_at_call 64; refine C.out.mono ?_; rintro e w2 ⟨rfl, b2⟩)
    have CT := Lib.hid (cat2_any A n c L l f (f + 1) (by omega) (by omega) (by omega) hn w.heap.size w0 w2 (below_then HW0.out b2) b2.size H1.out HA.out)
    have B2 := Lib.hid b2
    clear b2 C
    generalize fromG 3 A c (f + 1) = A3 at s2' CT
    generalize n - (f + 1) = n3 at s2' CT
    generalize c - (f + 1) = c3 at s2' CT
    clear s2
    go_region_held3 (fun W => True)
      (first | trivial)
      ((go_at_call 67; refine CT.out.mono ?_; rintro e wy ⟨x, rfl, hx, bb⟩))
    all_goals
      have HX := Lib.hid hx
      have BB := Lib.hid (below_then B2.out bb)
      go_wp2_with fail
      go_ret
      exact ⟨x, rfl, by rw [HD.out]; exact HX.out, BB.out⟩
end Go.Proofs.YtfljhnalmiibeaaGreat

