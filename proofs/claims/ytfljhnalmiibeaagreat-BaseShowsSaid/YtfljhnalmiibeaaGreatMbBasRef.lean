/- Several texts laid together: BasRef, BasAl, BasRight1. -/
import Derived.Test.YtfljhnalmiibeaaGreatMbBasShow
import Derived.Test.YtfljhnalmiibeaaGreatMbSchMem
namespace Go.Proofs.YtfljhnalmiibeaaGreat
set_option maxRecDepth 100000
open Go.RowKit
/-- a line of a size that is looked at -/
structure SmallL (y : LQ) : Prop where
  cs : y.cs.length ≤ 20
  by_ : y.by_.length ≤ 60
  parts : ∀ c ∈ y.cs, c.l.length ≤ 40
/-- a Boolean is told; if it is true, so is S -/
def TellsIf (S : Prop) (w : World) (e : Ending) (w' : World) : Prop := ∃ q : Bool, e = .returned (.bool q) ∧ (q = true → S) ∧ Below w.heap.size w w'
theorem SmallL.ok {y : LQ} (h : SmallL y) : LineOk y := ⟨by have := h.by_; omega, by have := h.cs; omega, fun c hc => by have := h.parts c hc; omega⟩
theorem parts_next {l : List CQ} {k : Nat} {x : CQ} (h : ∀ c ∈ l.take k, c.l.length ≤ 40) (hx : l[k]? = some x) (hl : x.l.length ≤ 40) : ∀ c ∈ l.take (k + 1), c.l.length ≤ 40 := by
  intro c hc
  rw [List.take_add_one, hx] at hc
  rcases List.mem_append.1 hc with h1 | h1
  · exact h c h1
  · simp at h1; subst h1; exact hl
set_option maxHeartbeats 6400000 in
theorem small13_any (x : LnR) (y : LQ) (w : World) (h : LineR w x y) :
    Calls Tryz.prog 28 #[x.agg] w fun e w' => TellsIf (SmallL y) w e w' := by
  obtain ⟨xkey, xca, xcn, xcc, xba, xbn, xbc⟩ := x
  obtain ⟨hk, hcs, hby⟩ := h
  dsimp only at hk hcs hby
  obtain ⟨w1, hw1⟩ : ∃ w1, w1 = (w.alloc (lineBox ⟨xkey, xca, xcn, xcc, xba, xbn, xbc⟩)) := ⟨_, rfl⟩
  have HW := Lib.hid hw1
  have r0 : w1.heap[w.heap.size]? = some (lineBox ⟨xkey, xca, xcn, xcc, xba, xbn, xbc⟩) := by rw [hw1]; exact new_row13 _ _ rfl
  have b1 : Below w.heap.size w w1 := by rw [hw1]; exact below_new (Below.refl _ _) _
  have sz : w1.heap.size = w.heap.size + 1 := by rw [hw1]; simp only [World.size_alloc]
  have R0 := Lib.hid r0; have B1 := Lib.hid b1
  have HCS := Lib.hid hcs; have HLC : Hid (y.cs.length = xcn) := hcs.len; have HLB : Hid (y.by_.length = xbn) := hby.len
  have hle := hcs.le; have hle2 := hby.le
  obtain ⟨p0, p1, p2⟩ := line_row r0
  dsimp only at p0 p1 p2
  clear hcs hby r0 b1 sz hw1 hk
  go_enter Tryz.func28, Tryz.ntmps28
  go_upto_region 1 with fail
  rw [show (w.alloc (lineBox ⟨xkey, xca, xcn, xcc, xba, xbn, xbc⟩)) = w1 from HW.out.symm]
  clear HW
  go_wp2_with fail
  clear p0 p1 p2
  go_loopw [3] (fun i wr => ∃ k : Nat, k ≤ xcn ∧ i = .int .i64 k ∧ Hid (∀ c ∈ y.cs.take k, c.l.length ≤ 40) ∧ Hid (wr.heap[w.heap.size]? = some (lineBox ⟨xkey, xca, xcn, xcc, xba, xbn, xbc⟩)) ∧ Hid (Below w.heap.size w wr)) (fun i _ => xcn - (intOf i).toNat)
  case atStart => exact ⟨0, Nat.zero_le _, rfl, by intro c hc; simp at hc, R0, B1⟩
  case round =>
    clear R0 B1
    obtain ⟨k, hk, rfl, HA, R0, B1⟩ := hrel
    obtain ⟨p0, p1, p2⟩ := line_row R0.out
    dsimp only at p0 p1 p2
    by_cases hlt : k < xcn
    · obtain ⟨b, o, xq, yq, rfl, hb, hx, hr, hc⟩ := HCS.out.cell13 hlt
      obtain ⟨d0, d1, d2, d3, d4⟩ := hc wr B1.out
      have y1 : (k : Int) < (xcn : Int) := by omega
      have y0 : (0 : Int) ≤ (k : Int) := by omega
      have hpl := hr.2.2.len
      have HX := Lib.hid hx
      have d3' : wr.cell? ⟨b, o + k * 5 + 1 + 2, none⟩ = some (.string xq.v.s) := d3
      clear hc hx hb hr
      by_cases g1 : 40 < (xq.n : Int)
      · go_wp2_with fail
        go_ret
        exact ⟨false, rfl, (fun h => by cases h), B1.out⟩
      · have HN := Lib.hid (parts_next HA.out HX.out (by omega))
        by_cases g2 : 400 < (xq.v.s.size : Int)
        · go_wp2_with fail
          go_ret
          exact ⟨false, rfl, (fun h => by cases h), B1.out⟩
        · clear hpl
          go_wp2_with fail
          exact ⟨⟨k + 1, by omega, by go_num, HN, R0, B1⟩, by simp [intOf]; omega⟩
    · have hke : k = xcn := by omega
      have y1 : ¬ (k : Int) < (xcn : Int) := by omega
      have HAll : Hid (∀ c ∈ y.cs, c.l.length ≤ 40) := by show ∀ c ∈ _, _; have := HA.out; rwa [List.take_of_length_le (by rw [HLC.out, hke]; exact Nat.le_refl _)] at this
      clear hke
      by_cases g1 : (xcn : Int) ≤ 20
      · by_cases g2 : (xbn : Int) ≤ 60
        · go_wp2_with fail
          go_ret
          exact ⟨true, rfl, fun _ => ⟨by rw [HLC.out]; omega, by rw [HLB.out]; omega, HAll.out⟩, B1.out⟩
        · go_wp2_with fail
          go_ret
          exact ⟨false, rfl, (fun h => by cases h), B1.out⟩
      · go_wp2_with fail
        go_ret
        exact ⟨false, rfl, (fun h => by cases h), B1.out⟩
theorem smallP13_any (x : LnR) (y : LQ) (w : World) (h : LineR w x y) :
    Calls Tryz.prog 17 #[x.agg] w fun e w' => TellsIf (SmallL y) w e w' := by
  obtain ⟨w1, hw1⟩ : ∃ w1, w1 = (w.alloc (lineBox x)) := ⟨_, rfl⟩
  have HW := Lib.hid hw1
  have r0 : w1.heap[w.heap.size]? = some (lineBox x) := by rw [hw1]; exact new_row13 _ _ rfl
  have b1 : Below w.heap.size w w1 := by rw [hw1]; exact below_new (Below.refl _ _) _
  have sz : w1.heap.size = w.heap.size + 1 := by rw [hw1]; simp only [World.size_alloc]
  obtain ⟨p0, p1, p2⟩ := line_row r0
  have C := Lib.hid (small13_any x y w1 (h.below b1))
  have B1 := Lib.hid b1
  clear h r0 b1 sz hw1
  go_enter Tryz.func17, Tryz.ntmps17
  go_upto_region 1 with fail
  rw [show (w.alloc (lineBox x)) = w1 from HW.out.symm]
  clear HW
  go_wp2_with (go_at_call 28; refine C.out.mono ?_; rintro e w2 ⟨q, rfl, hq, b2⟩; have HQ := Lib.hid hq; clear hq)
  go_ret
  exact ⟨q, rfl, HQ.out, below_then B1.out b2⟩
theorem cq_same (a b : CQ) : (decide (a.k = b.k) && decide (a.v = b.v) && decide (a.l = b.l)) = decide (a = b) := by
  obtain ⟨ak, av, al⟩ := a
  obtain ⟨bk, bv, bl⟩ := b
  by_cases h : (⟨ak, av, al⟩ : CQ) = ⟨bk, bv, bl⟩
  · rw [decide_eq_true h]; injection h with h1 h2 h3; subst h1 h2 h3; simp
  · rw [decide_eq_false h]
    rcases e : (decide (ak = bk) && decide (av = bv) && decide (al = bl)) with _ | _
    · rfl
    · exfalso; apply h
      simp only [Bool.and_eq_true, decide_eq_true_eq] at e
      obtain ⟨⟨e1, e2⟩, e3⟩ := e
      subst e1 e2 e3; rfl
theorem lq_ne {y z : LQ} (h : ¬ (y.key = z.key ∧ y.cs.length = z.cs.length ∧ y.by_ = z.by_ ∧ y.cs = z.cs)) : decide (y = z) = false := decide_eq_false (fun e => h (by subst e; exact ⟨rfl, rfl, rfl, rfl⟩))
theorem takeEq_next13 {α : Type} {l m : List α} {k : Nat} {x y : α} (h : l.take k = m.take k) (hx : l[k]? = some x) (hy : m[k]? = some y) (e : x = y) : l.take (k + 1) = m.take (k + 1) := by
  rw [List.take_add_one, List.take_add_one, h, hx, hy, e]
set_option maxHeartbeats 12800000 in
theorem sameLine_any (x z : LnR) (y u : LQ) (w : World) (h : LineR w x y) (h2 : LineR w z u) :
    Calls Tryz.prog 22 #[x.agg, z.agg] w fun e w' => e = .returned (.bool (decide (y = u))) ∧ Below w.heap.size w w' := by
  obtain ⟨xkey, xca, xcn, xcc, xba, xbn, xbc⟩ := x
  obtain ⟨zkey, zca, zcn, zcc, zba, zbn, zbc⟩ := z
  obtain ⟨hk, hcs, hby⟩ := h
  obtain ⟨hk2, hcs2, hby2⟩ := h2
  dsimp only at hk hcs hby hk2 hcs2 hby2
  obtain ⟨w1, hw1⟩ : ∃ w1, w1 = ((w.alloc (lineBox ⟨xkey, xca, xcn, xcc, xba, xbn, xbc⟩)).alloc (lineBox ⟨zkey, zca, zcn, zcc, zba, zbn, zbc⟩)) := ⟨_, rfl⟩
  have HW := Lib.hid hw1
  have r0 : w1.heap[w.heap.size]? = some (lineBox ⟨xkey, xca, xcn, xcc, xba, xbn, xbc⟩) := by rw [hw1]; exact old_row13 _ (new_row13 _ _ rfl)
  have r1 : w1.heap[w.heap.size + 1]? = some (lineBox ⟨zkey, zca, zcn, zcc, zba, zbn, zbc⟩) := by rw [hw1]; exact new_row13 _ _ (by simp only [World.size_alloc])
  have b1 : Below w.heap.size w w1 := by rw [hw1]; exact below_new (below_new (Below.refl _ _) _) _
  have sz : w1.heap.size = w.heap.size + 1 + 1 := by rw [hw1]; simp only [World.size_alloc]
  have R0 := Lib.hid r0; have R1 := Lib.hid r1; have B1 := Lib.hid b1
  have HCS := Lib.hid hcs; have HCS2 := Lib.hid hcs2
  have HLC : Hid (y.cs.length = xcn) := hcs.len; have HLC2 : Hid (u.cs.length = zcn) := hcs2.len
  have hle := hcs.le; have hle2 := hcs2.le
  have HK : Hid (xkey = y.key) := hk; have HK2 : Hid (zkey = u.key) := hk2
  obtain ⟨r, hr⟩ : ∃ r, Hid (decide (y = u) = r) := ⟨_, rfl⟩
  rw [hr.out]
  obtain ⟨qd, hqd⟩ : ∃ q, Hid (decide (y.by_ = u.by_) = q) := ⟨_, rfl⟩
  have CD := Lib.hid (refDots_any xba zba xbn zbn xbc zbc y.by_ u.by_ w1 (hby.below b1) (hby2.below b1))
  rw [hqd.out] at CD
  obtain ⟨p0, p1, p2⟩ := line_row r0
  obtain ⟨m0, m1, m2⟩ := line_row r1
  dsimp only at p0 p1 p2 m0 m1 m2
  generalize hg1 : w.heap.size + 1 = g1 at R1 m0 m1 m2 ⊢
  have HG1 := Lib.hid hg1
  clear hcs hby hcs2 hby2 r0 r1 b1 sz hw1 hk hk2 hg1
  by_cases c1 : xkey = zkey
  rotate_left
  · have HF : Hid (r = false) := by show _ = _; rw [← hr.out]; exact lq_ne (fun h => c1 (by rw [HK.out, HK2.out]; exact h.1))
    have q1 : (xkey != zkey) = true := by simp [bne, c1]
    go_enter Tryz.func22, Tryz.ntmps22
    go_upto_region 1 with fail
    rw [show ((w.alloc (lineBox ⟨xkey, xca, xcn, xcc, xba, xbn, xbc⟩)).alloc (lineBox ⟨zkey, zca, zcn, zcc, zba, zbn, zbc⟩)) = w1 from HW.out.symm]
    clear HW
    rw [HG1.out]
    go_wp2_with fail
    go_ret
    exact ⟨ret_bool HF.out.symm, B1.out⟩
  subst c1
  have q1 : (xkey != xkey) = false := by simp [bne]
  by_cases c2 : xcn = zcn
  rotate_left
  · have HF : Hid (r = false) := by show _ = _; rw [← hr.out]; exact lq_ne (fun h => c2 (by rw [← HLC.out, ← HLC2.out]; exact h.2.1))
    have q2 : ((xcn : Int) != (zcn : Int)) = true := by simp [bne]; omega
    have q3 : ¬ (xcn : Int) = (zcn : Int) := by omega
    clear c2
    go_enter Tryz.func22, Tryz.ntmps22
    go_upto_region 1 with fail
    rw [show ((w.alloc (lineBox ⟨xkey, xca, xcn, xcc, xba, xbn, xbc⟩)).alloc (lineBox ⟨xkey, zca, zcn, zcc, zba, zbn, zbc⟩)) = w1 from HW.out.symm]
    clear HW
    rw [HG1.out]
    go_wp2_with fail
    go_ret
    exact ⟨ret_bool HF.out.symm, B1.out⟩
  subst c2
  have q2 : ((xcn : Int) != (xcn : Int)) = false := by simp [bne]
  cases qd with
  | false =>
    have HF : Hid (r = false) := by show _ = _; rw [← hr.out]; exact lq_ne (fun h => by have := hqd.out; rw [decide_eq_true h.2.2.1] at this; cases this)
    go_enter Tryz.func22, Tryz.ntmps22
    go_upto_region 1 with fail
    rw [show ((w.alloc (lineBox ⟨xkey, xca, xcn, xcc, xba, xbn, xbc⟩)).alloc (lineBox ⟨xkey, zca, xcn, zcc, zba, zbn, zbc⟩)) = w1 from HW.out.symm]
    clear HW
    rw [HG1.out]
    go_wp2_with (go_at_call 31; refine CD.out.mono ?_; rintro e w2 ⟨rfl, b2⟩)
    go_ret
    exact ⟨ret_bool HF.out.symm, below_quiet B1.out b2⟩
  | true =>
    go_enter Tryz.func22, Tryz.ntmps22
    go_upto_region 1 with fail
    rw [show ((w.alloc (lineBox ⟨xkey, xca, xcn, xcc, xba, xbn, xbc⟩)).alloc (lineBox ⟨xkey, zca, xcn, zcc, zba, zbn, zbc⟩)) = w1 from HW.out.symm]
    clear HW
    rw [HG1.out]
    go_wp2_with (go_at_call 31; refine CD.out.mono ?_; rintro e w2 ⟨rfl, b2⟩; have b2b : Below w1.heap.size w1 w2 := b2.below _; have B2 := Lib.hid (below_then B1.out b2b); have T0 := Lib.hid (row_below R0.out b2b); have T1 := Lib.hid (row_below R1.out b2b); obtain ⟨s0, s1, s2⟩ := line_row T0.out; obtain ⟨t0, t1, t2⟩ := line_row T1.out; dsimp only at s0 s1 s2 t0 t1 t2; clear b2 b2b)
    go_loopw [5] (fun i wr => ∃ k : Nat, k ≤ xcn ∧ i = .int .i64 k ∧ Hid (y.cs.take k = u.cs.take k) ∧ Hid (wr.heap[w.heap.size]? = some (lineBox ⟨xkey, xca, xcn, xcc, xba, xbn, xbc⟩)) ∧ Hid (wr.heap[g1]? = some (lineBox ⟨xkey, zca, xcn, zcc, zba, zbn, zbc⟩)) ∧ Hid (Below w.heap.size w wr)) (fun i _ => xcn - (intOf i).toNat)
    case atStart => exact ⟨0, Nat.zero_le _, rfl, rfl, T0, T1, B2⟩
    case round =>
      clear T0 T1 B2 s0 s1 s2 t0 t1 t2
      obtain ⟨k, hk, rfl, HA, T0, T1, B2⟩ := hrel
      obtain ⟨s0, s1, s2⟩ := line_row T0.out
      obtain ⟨t0, t1, t2⟩ := line_row T1.out
      dsimp only at s0 s1 s2 t0 t1 t2
      by_cases hlt : k < xcn
      · obtain ⟨b, o, xq, yq, rfl, hb, hx, hrr, hc⟩ := HCS.out.cell13 hlt
        obtain ⟨d0, d1, d2, d3, d4⟩ := hc wr B2.out
        obtain ⟨b', o', zq, uq, rfl, hb', hx', hrr', hc'⟩ := HCS2.out.cell13 hlt
        obtain ⟨e0, e1, e2, e3, e4⟩ := hc' wr B2.out
        have k1 : ∀ p : BelowOf wr, p.W.cell? ⟨w.heap.size, 1, none⟩ = _ := fun p => p.cell s1
        have k2 : ∀ p : BelowOf wr, p.W.cell? ⟨g1, 1, none⟩ = _ := fun p => p.cell t1
        have a0 : ∀ p : BelowOf wr, p.W.cell? ⟨b, o + k * 5, none⟩ = _ := fun p => p.cell d0
        have a1 : ∀ p : BelowOf wr, p.W.cell? ⟨b, o + k * 5 + 1, none⟩ = _ := fun p => p.cell d1
        have a2 : ∀ p : BelowOf wr, p.W.cell? ⟨b, o + k * 5 + 2, none⟩ = _ := fun p => p.cell d2
        have a3 : ∀ p : BelowOf wr, p.W.cell? ⟨b, o + k * 5 + 3, none⟩ = _ := fun p => p.cell d3
        have a4 : ∀ p : BelowOf wr, p.W.cell? ⟨b, o + k * 5 + 4, none⟩ = _ := fun p => p.cell d4
        have f0 : ∀ p : BelowOf wr, p.W.cell? ⟨b', o' + k * 5, none⟩ = _ := fun p => p.cell e0
        have f1 : ∀ p : BelowOf wr, p.W.cell? ⟨b', o' + k * 5 + 1, none⟩ = _ := fun p => p.cell e1
        have f2 : ∀ p : BelowOf wr, p.W.cell? ⟨b', o' + k * 5 + 2, none⟩ = _ := fun p => p.cell e2
        have f3 : ∀ p : BelowOf wr, p.W.cell? ⟨b', o' + k * 5 + 3, none⟩ = _ := fun p => p.cell e3
        have f4 : ∀ p : BelowOf wr, p.W.cell? ⟨b', o' + k * 5 + 4, none⟩ = _ := fun p => p.cell e4
        obtain ⟨q, hq⟩ : ∃ q, Hid (decide (yq = uq) = q) := ⟨_, rfl⟩
        have C1 : Hid (∀ W, Below wr.heap.size wr W → Calls Tryz.prog 43 #[.agg #[.int .i64 xq.k, .int .i64 xq.v.k, .int .i64 xq.v.n, .string xq.v.s, .slice xq.A xq.n xq.c], .agg #[.int .i64 zq.k, .int .i64 zq.v.k, .int .i64 zq.v.n, .string zq.v.s, .slice zq.A zq.n zq.c]] W fun e w' => e = .returned (.bool q) ∧ Below W.heap.size W w') := by
          show ∀ W, _; intro W hW
          have hb9 := below_then B2.out hW
          have := refSame7_any xq.k xq.v xq.A xq.n xq.c yq.l zq.k zq.v zq.A zq.n zq.c uq.l W (hrr.2.2.below hb9) (hrr'.2.2.below hb9)
          rwa [hrr.1, hrr.2.1, hrr'.1, hrr'.2.1, cq_same, hq.out, ← hrr.1, ← hrr.2.1, ← hrr'.1, ← hrr'.2.1] at this
        have y1 : (k : Int) < (xcn : Int) := by omega
        have y0 : (0 : Int) ≤ (k : Int) := by omega
        have HX := Lib.hid hx; have HX' := Lib.hid hx'; have HQ := hq
        clear hc hx hb hrr hc' hx' hb' hrr' hq
        go_upto_region 6 with fail
        clear d0 d1 d2 d3 d4 e0 e1 e2 e3 e4 s0 s1 s2 t0 t1 t2
        refine wp_region_quiet_below (by kernel_rfl) (by kernel_rfl) ?_
        repeat (first | (with_reducible refine wpQuiet_step (fun K hK => ?_); go_simp; first | (with_reducible refine hK _ ?_; clear hK K) | (apply Exists.intro; with_reducible refine ⟨fun _ => ?_, hK _ ?_⟩; (go_at_call 43; exact Calls.quiet_below (C1.out _ (BelowOf.h _))); clear hK K)) | (with_reducible refine wpQuiet_pass (by kernel_rfl) ?_; (try simp only [Act.put, List.setIfInBounds_toArray, List.set_cons_zero, List.set_cons_succ])))
        with_reducible refine wpQuiet_nil ?_
        rintro wq ⟨⟨_, hq⟩, rfl⟩
        have HB3 := Lib.hid (below_then B2.out hq)
        have U0 := Lib.hid (row_below T0.out hq)
        have U1 := Lib.hid (row_below T1.out hq)
        clear k1 k2 a0 a1 a2 a3 a4 f0 f1 f2 f3 f4 hq
        cases q with
        | true =>
          have HN := Lib.hid (takeEq_next13 HA.out HX.out HX'.out (of_decide_eq_true HQ.out))
          go_wp2_with fail
          exact ⟨⟨k + 1, by omega, by go_num, HN, U0, U1, HB3⟩, by simp [intOf]; omega⟩
        | false =>
          have HF : Hid (r = false) := by show _ = _; rw [← hr.out]; exact lq_ne (fun h => of_decide_eq_false HQ.out (by have h1 := HX.out; rw [h.2.2.2, HX'.out] at h1; injection h1 with h1; exact h1.symm))
          go_wp2_with fail
          go_ret
          exact ⟨ret_bool HF.out.symm, HB3.out⟩
      · have hke : k = xcn := by omega
        have y1 : ¬ (k : Int) < (xcn : Int) := by omega
        have HF : Hid (r = true) := by
          show _ = _
          rw [← hr.out]
          refine decide_eq_true ?_
          have h1 := HA.out
          rw [List.take_of_length_le (by rw [HLC.out, hke]; exact Nat.le_refl _), List.take_of_length_le (by rw [HLC2.out, hke]; exact Nat.le_refl _)] at h1
          have h3 := of_decide_eq_true hqd.out
          have h4 : y.key = u.key := by rw [← HK.out, HK2.out]
          obtain ⟨yk, yc, yb⟩ := y
          obtain ⟨uk, uc, ub⟩ := u
          dsimp only at h1 h3 h4
          subst h1 h3 h4
          rfl
        clear hke
        go_wp2_with fail
        go_ret
        exact ⟨ret_bool HF.out.symm, B2.out⟩
end Go.Proofs.YtfljhnalmiibeaaGreat

namespace Go.Proofs.YtfljhnalmiibeaaGreat
set_option maxRecDepth 100000
open Go.RowKit
def id13 : C4 := ⟨⟨#[105, 100]⟩, 0, 1, false⟩
def s13 : C4 := ⟨⟨#[115]⟩, 3, 1, false⟩
def t13 (a : Option Addr) : T6 := ⟨⟨#[97]⟩, a, 2, 2, [id13, s13], none, 0, 0, [], none, 0, 0, none, 0, 0, [], none, 0, 0, []⟩
theorem reads_some13 (g : Nat) (w : World) (hg : w.heap.size = g) : ∃ W : World,
    Hid (W = ((w.alloc (.cells #[.slice (some ⟨g + 1 + 1, 0, none⟩) 1 1] 24)).alloc (.cells #[.string ⟨#[105, 100]⟩, .int .i64 0, .int .i64 1, .bool false, .string ⟨#[115]⟩, .int .i64 3, .int .i64 1, .bool false] 103)))
    ∧ Hid (W.heap[g]? = some (.cells #[.slice (some ⟨g + 1 + 1, 0, none⟩) 1 1] 24)) ∧ Hid (Below g w W) ∧ Hid (W.heap.size = g + 1 + 1)
    ∧ Hid (RdC W (some ⟨g + 1, 0, none⟩) 2 2 [id13, s13]) := by
  subst hg
  have hw : ∀ (w0 w : World) (o : Obj), Below w0.heap.size w0 w → Below w0.heap.size w0 (w.alloc o) := fun w0 w o h => below_new h o
  have r := Below.refl
  refine ⟨_, rfl, ?_, ?_, ?_, ?_⟩
  · exact row_below (heap_alloc_new w _) (hw _ _ _ (r _ _))
  · exact hw _ _ _ (hw _ _ _ (r _ _))
  · show _ = _; simp
  · exact rdg_new c4len _ [id13, s13] _ _ rfl rfl (by decide) (by simp)
set_option maxHeartbeats 6400000 in
theorem some13_any (w : World) :
    Calls Tryz.prog 29 #[] w fun e w' => ∃ A a, e = .returned (.agg #[.slice A 1 1]) ∧ RdS11 w' A 1 1 [t13 a] ∧ Below w.heap.size w w' := by
  obtain ⟨g, hg⟩ : ∃ g, Hid (w.heap.size = g) := ⟨_, rfl⟩
  obtain ⟨W, hW, R0, BW, SW, M1⟩ := reads_some13 g w hg.out
  go_enter Tryz.func29, Tryz.ntmps29
  go_wp2_with fail
  rw [hg.out, ← hW.out]
  clear hW
  obtain ⟨Z, hZ⟩ : ∃ Z, Hid (Z = (#[.string ⟨#[97]⟩, .slice (some ⟨g + 1, 0, none⟩) 2 2, .slice none 0 0, .slice none 0 0, .slice none 0 0, .slice none 0 0] : Array Value)) := ⟨_, rfl⟩
  rw [← hZ.out]
  have BZ : Below W.heap.size W (W.alloc (.cells Z 66)) := below_new (Below.refl _ _) _
  have RZ := row_below R0.out BZ
  refine bodyPost_ret (v := .agg #[.slice (some ⟨g + 1 + 1, 0, none⟩) 1 1]) (results_cell_row rfl _ _ g 24 _ (0, 0) _ rfl RZ Tryz.underlying24 rfl (by kernel_rfl)) rfl ?_
  refine ⟨_, some ⟨g + 1, 0, none⟩, rfl, ?_, ?_⟩
  · refine ⟨rdg_new t6len W [t13 _] Z _ (by rw [hZ.out]; rfl) rfl (by decide) SW.out, ?_⟩
    intro t ht
    obtain rfl := List.mem_singleton.1 ht
    exact ⟨M1.out.below BZ, Rd.nil_ _, ⟨Nat.le_refl 0, Nat.zero_le _⟩, RdG.nil_ _, RdG.nil_ _⟩
  · exact BW.out.trans (BZ.mono (by rw [SW.out]; omega))
def pt13 (n : Int) : P11 := ⟨⟨1, n, ⟨#[]⟩⟩, ⟨1, 1⟩, 0, 0, ⟨0, 0⟩, 0, false⟩
def ln13 (k n : Int) : LQ := ⟨k, [⟨0, ⟨1, k, ⟨#[]⟩⟩, []⟩, ⟨3, ⟨0, 0, ⟨#[]⟩⟩, [pt13 n]⟩], [⟨1, 1⟩]⟩
theorem reads_ln13 (k n : Int) (g : Nat) (w : World) (hg : w.heap.size = g) : ∃ W : World,
    Hid (W = (((((w.alloc (lineBox ⟨k, some ⟨g + 1 + 1 + 1, 0, none⟩, 2, 2, some ⟨g + 1 + 1 + 1 + 1, 0, none⟩, 1, 1⟩)).alloc (.cells #[.int .i64 1, .int .i64 n, .string ⟨#[]⟩, .int .i64 1, .int .i64 1, .int .i64 0, .int .i64 0, .int .i64 0, .int .i64 0, .int .i64 0, .bool false] 105)).alloc (.cells #[.int .i64 1, .int .i64 n, .string ⟨#[]⟩, .int .i64 1, .int .i64 1, .int .i64 0, .int .i64 0, .int .i64 0, .int .i64 0, .int .i64 0, .bool false] 105)).alloc (.cells #[.int .i64 0, .int .i64 1, .int .i64 k, .string ⟨#[]⟩, .slice none 0 0, .int .i64 3, .int .i64 0, .int .i64 0, .string ⟨#[]⟩, .slice (some ⟨g + 1 + 1, 0, none⟩) 1 1] 72)).alloc (.cells #[.int .i64 1, .int .i64 1] 40)))
    ∧ Hid (W.heap[g]? = some (lineBox ⟨k, some ⟨g + 1 + 1 + 1, 0, none⟩, 2, 2, some ⟨g + 1 + 1 + 1 + 1, 0, none⟩, 1, 1⟩)) ∧ Hid (Below g w W)
    ∧ Hid (LineR W ⟨k, some ⟨g + 1 + 1 + 1, 0, none⟩, 2, 2, some ⟨g + 1 + 1 + 1 + 1, 0, none⟩, 1, 1⟩ (ln13 k n)) := by
  subst hg
  have hw : ∀ (w0 w : World) (o : Obj), Below w0.heap.size w0 w → Below w0.heap.size w0 (w.alloc o) := fun w0 w o h => below_new h o
  have r := Below.refl
  refine ⟨_, rfl, ?_, ?_, ?_⟩
  · exact row_below (heap_alloc_new w _) (hw _ _ _ (hw _ _ _ (hw _ _ _ (hw _ _ _ (r _ _)))))
  · exact hw _ _ _ (hw _ _ _ (hw _ _ _ (hw _ _ _ (hw _ _ _ (r _ _)))))
  · refine ⟨rfl, ⟨[⟨0, ⟨1, k, ⟨#[]⟩⟩, none, 0, 0⟩, ⟨3, ⟨0, 0, ⟨#[]⟩⟩, some ⟨w.heap.size + 1 + 1, 0, none⟩, 1, 1⟩], ?_, rfl, ?_⟩, ?_⟩
    · exact (rdg_new c5len _ [⟨0, ⟨1, k, ⟨#[]⟩⟩, none, 0, 0⟩, ⟨3, ⟨0, 0, ⟨#[]⟩⟩, some ⟨w.heap.size + 1 + 1, 0, none⟩, 1, 1⟩] _ _ rfl rfl (by first | (show (1 : Nat) ≤ 4294967296; decide) | (show (2 : Nat) ≤ 4294967296; decide)) (by simp)).below (hw _ _ _ (r _ _))
    · intro j x y hx hy
      rcases j with _ | _ | j
      · obtain rfl := Option.some.inj hx
        obtain rfl := Option.some.inj hy
        exact ⟨rfl, rfl, RdG.nil_ _⟩
      · obtain rfl := Option.some.inj hx
        obtain rfl := Option.some.inj hy
        exact ⟨rfl, rfl, (rdg_new p11len _ [pt13 n] _ _ rfl rfl (by first | (show (1 : Nat) ≤ 4294967296; decide) | (show (2 : Nat) ≤ 4294967296; decide)) (by simp)).below (hw _ _ _ (hw _ _ _ (r _ _)))⟩
      · cases hx
    · exact rdg_new d2len _ [⟨1, 1⟩] _ _ rfl rfl (by first | (show (1 : Nat) ≤ 4294967296; decide) | (show (2 : Nat) ≤ 4294967296; decide)) (by simp)
set_option maxHeartbeats 6400000 in
theorem ln13_any (k n : Int) (w : World) :
    Calls Tryz.prog 30 #[.int .i64 k, .int .i64 n] w fun e w' => ∃ z : LnR, e = .returned z.agg ∧ LineR w' z (ln13 k n) ∧ Below w.heap.size w w' := by
  obtain ⟨g, hg⟩ : ∃ g, Hid (w.heap.size = g) := ⟨_, rfl⟩
  obtain ⟨W, hW, R0, BW, M1⟩ := reads_ln13 k n g w hg.out
  go_enter Tryz.func30, Tryz.ntmps30
  go_wp2_with fail
  rw [hg.out, show (((((w.alloc (lineBox ⟨k, some ⟨g + 1 + 1 + 1, 0, none⟩, 2, 2, some ⟨g + 1 + 1 + 1 + 1, 0, none⟩, 1, 1⟩)).alloc (.cells #[.int .i64 1, .int .i64 n, .string ⟨#[]⟩, .int .i64 1, .int .i64 1, .int .i64 0, .int .i64 0, .int .i64 0, .int .i64 0, .int .i64 0, .bool false] 105)).alloc (.cells #[.int .i64 1, .int .i64 n, .string ⟨#[]⟩, .int .i64 1, .int .i64 1, .int .i64 0, .int .i64 0, .int .i64 0, .int .i64 0, .int .i64 0, .bool false] 105)).alloc (.cells #[.int .i64 0, .int .i64 1, .int .i64 k, .string ⟨#[]⟩, .slice none 0 0, .int .i64 3, .int .i64 0, .int .i64 0, .string ⟨#[]⟩, .slice (some ⟨g + 1 + 1, 0, none⟩) 1 1] 72)).alloc (.cells #[.int .i64 1, .int .i64 1] 40)) = W from hW.out.symm]
  clear hW
  refine bodyPost_ret (v := (⟨k, some ⟨g + 1 + 1 + 1, 0, none⟩, 2, 2, some ⟨g + 1 + 1 + 1 + 1, 0, none⟩, 1, 1⟩ : LnR).agg) (results_cell_row rfl _ _ g 37 _ (0, 0) _ rfl R0.out Tryz.underlying37 rfl (by kernel_rfl)) rfl ?_
  exact ⟨_, rfl, M1.out, BW.out⟩
end Go.Proofs.YtfljhnalmiibeaaGreat

namespace Go.Proofs.YtfljhnalmiibeaaGreat
set_option maxRecDepth 100000
open Go.RowKit
/-- whether p holds of all numbers below n -/
def allN (n : Nat) (p : Nat → Bool) : Bool := (List.range n).all p
theorem allN_iff {n : Nat} {p : Nat → Bool} : allN n p = true ↔ ∀ i, i < n → p i = true := by
  unfold allN
  rw [List.all_eq_true]
  exact ⟨fun h i hi => h i (List.mem_range.2 hi), fun h i hi => h i (List.mem_range.1 hi)⟩
theorem allN_no {n : Nat} {p : Nat → Bool} {k : Nat} (hk : k < n) (h : p k = false) : allN n p = false := by
  rcases e : allN n p with _ | _
  · rfl
  · rw [allN_iff.1 e k hk] at h; cases h
theorem allN_yes {n : Nat} {p : Nat → Bool} (h : ∀ i, i < n → p i = true) : allN n p = true := allN_iff.2 h
theorem allN_next {p : Nat → Bool} {k : Nat} (h : ∀ i, i < k → p i = true) (hk : p k = true) : ∀ i, i < k + 1 → p i = true := by
  intro i hi
  by_cases e : i = k
  · subst e; exact hk
  · exact h i (by omega)
def dotOk (d : D2) : Bool := decide (1 ≤ d.d) && decide (d.d ≤ 64) && decide (1 ≤ d.s) && decide (d.s ≤ 1048576)
def dotAt (l : List D2) (i : Nat) : Bool := dotOk (l.getD i ⟨0, 0⟩) && (decide (i = 0) || overD (l.getD (i - 1) ⟨0, 0⟩) (l.getD i ⟨0, 0⟩))
def dotsOk (l : List D2) : Bool := allN l.length (dotAt l)
noncomputable def cellOk (y : CQ) : Bool :=
  if y.k = 0 then y.v.right && decide (y.l.length = 0) else if y.k = 1 then rightC y.k y.v y.l else if y.k = 2 then decide (rightN y.k y.v y.l.length = 0) else if y.k = 3 then rightS y.k y.v y.l else decide (rightT10 y.k y.v y.l = 0)
noncomputable def cellAt (cols : List C4) (cs : List CQ) (i : Nat) : Bool := decide ((cs.getD i default).k = (cols.getD i default).k) && cellOk (cs.getD i default)
noncomputable def lineOk (cols : List C4) (y : LQ) : Bool :=
  decide (0 ≤ y.key) && decide (y.key < 1073741824) && decide (y.cs.length = cols.length) && dotsOk y.by_ && allN y.cs.length (cellAt cols y.cs) && decide ((y.cs.getD 0 default).v = ⟨1, y.key, ⟨#[]⟩⟩)
noncomputable def lineAt (cols : List C4) (l : List LQ) (i : Nat) : Bool := lineOk cols (l.getD i default) && (decide (i = 0) || decide ((l.getD (i - 1) default).key < (l.getD i default).key))
noncomputable def linesOk (cols : List C4) (l : List LQ) : Bool := decide (l.length ≤ 2000) && allN l.length (lineAt cols l)
noncomputable def baseOk (s : List T6) (b : List (List LQ)) : Bool := decide (rightE s = 0) && decide (b.length = s.length) && allN s.length (fun i => linesOk (s.getD i default).cols (linesB b i))
theorem getD_some {α : Type} {l : List α} {k : Nat} {x d : α} (h : l[k]? = some x) : l.getD k d = x := by rw [List.getD_eq_getElem?_getD, h]; rfl
theorem cmpD_under (a b : D2) : overD a b = decide (cmpD a b < 0) := by
  unfold cmpD overD sgnI
  repeat' (first | split | simp_all <;> omega)
set_option maxHeartbeats 3200000 in
theorem rightDot_any (d : D2) (w : World) : Calls Tryz.prog 127 #[d.agg] w fun e w' => e = .returned (.bool (dotOk d)) ∧ Below w.heap.size w w' := by
  obtain ⟨w1, hw1⟩ : ∃ w1, w1 = (w.alloc (dotBox d)) := ⟨_, rfl⟩
  have HW := Lib.hid hw1
  have r0 : w1.heap[w.heap.size]? = some (dotBox d) := by rw [hw1]; exact new_row13 _ _ rfl
  have b1 : Below w.heap.size w w1 := by rw [hw1]; exact below_new (Below.refl _ _) _
  have sz : w1.heap.size = w.heap.size + 1 := by rw [hw1]; simp only [World.size_alloc]
  obtain ⟨p0, p1⟩ := dot_row13 r0
  have HB := Lib.hid b1
  clear r0 b1 sz hw1
  by_cases h1 : 1 ≤ d.d
  · by_cases h2 : d.d ≤ 64
    · by_cases h3 : 1 ≤ d.s
      · by_cases h4 : d.s ≤ 1048576
        · have HV : Hid (dotOk d = true) := by show _ = _; simp [dotOk, h1, h2, h3, h4]
          rw [HV.out]
          go_enter Tryz.func127, Tryz.ntmps127
          go_upto_region 1 with fail
          rw [show (w.alloc (dotBox d)) = w1 from HW.out.symm]
          clear HW
          go_wp2_with fail
          go_ret
          exact ⟨rfl, HB.out⟩
        · have HV : Hid (dotOk d = false) := by show _ = _; simp [dotOk, h1, h2, h3, h4]
          rw [HV.out]
          go_enter Tryz.func127, Tryz.ntmps127
          go_upto_region 1 with fail
          rw [show (w.alloc (dotBox d)) = w1 from HW.out.symm]
          clear HW
          go_wp2_with fail
          go_ret
          exact ⟨rfl, HB.out⟩
      · have HV : Hid (dotOk d = false) := by show _ = _; simp [dotOk, h1, h2, h3]
        rw [HV.out]
        go_enter Tryz.func127, Tryz.ntmps127
        go_upto_region 1 with fail
        rw [show (w.alloc (dotBox d)) = w1 from HW.out.symm]
        clear HW
        go_wp2_with fail
        go_ret
        exact ⟨rfl, HB.out⟩
    · have HV : Hid (dotOk d = false) := by show _ = _; simp [dotOk, h1, h2]
      rw [HV.out]
      go_enter Tryz.func127, Tryz.ntmps127
      go_upto_region 1 with fail
      rw [show (w.alloc (dotBox d)) = w1 from HW.out.symm]
      clear HW
      go_wp2_with fail
      go_ret
      exact ⟨rfl, HB.out⟩
  · have HV : Hid (dotOk d = false) := by show _ = _; simp [dotOk, h1]
    rw [HV.out]
    go_enter Tryz.func127, Tryz.ntmps127
    go_upto_region 1 with fail
    rw [show (w.alloc (dotBox d)) = w1 from HW.out.symm]
    clear HW
    go_wp2_with fail
    go_ret
    exact ⟨rfl, HB.out⟩
set_option maxHeartbeats 6400000 in
theorem rightDots_any (A : Option Addr) (n c : Nat) (l : List D2) (w : World) (h : RdD w A n c l) : Calls Tryz.prog 96 #[.slice A n c] w fun e w' => e = .returned (.bool (dotsOk l)) ∧ Below w.heap.size w w' := by
  have hle := h.le
  have HL := Lib.hid h.len; have HRD := Lib.hid h
  have HB0 := Lib.hid (Below.refl w.heap.size w)
  unfold dotsOk
  obtain ⟨r, hr⟩ : ∃ r, Hid (allN l.length (dotAt l) = r) := ⟨_, rfl⟩
  rw [hr.out]
  clear h
  go_enter Tryz.func96, Tryz.ntmps96
  go_wp2_with fail
  go_loopw [7] (fun i wr => ∃ k : Nat, k ≤ n ∧ i = .int .i64 k ∧ Hid (∀ i, i < k → dotAt l i = true) ∧ Hid (Below w.heap.size w wr)) (fun i _ => n - (intOf i).toNat)
  case atStart => exact ⟨0, Nat.zero_le _, rfl, fun i h => absurd h (by omega), HB0⟩
  case round =>
    clear HB0
    obtain ⟨k, hk, rfl, HA, HB⟩ := hrel
    by_cases hlt : k < n
    · obtain ⟨b, o, x, rfl, hb, hx, hld⟩ := HRD.out.dot hlt
      obtain ⟨d0, d1⟩ := hld _ HB.out
      obtain ⟨w1, hw1⟩ : ∃ W, W = wr.alloc (dotBox x) := ⟨_, rfl⟩
      have HW := Lib.hid hw1
      have b1 : Below wr.heap.size wr w1 := by rw [hw1]; exact below_new (Below.refl _ _) _
      have r1 : w1.heap[wr.heap.size]? = some (dotBox x) := by rw [hw1]; exact heap_alloc_new _ _
      obtain ⟨e0, e1⟩ := dot_row13 r1
      have B1 := Lib.hid (below_then HB.out b1)
      have k0 : ∀ p : BelowOf w1, p.W.cell? ⟨wr.heap.size, 0, none⟩ = _ := fun p => p.cell e0
      have k1 : ∀ p : BelowOf w1, p.W.cell? ⟨wr.heap.size, 1, none⟩ = _ := fun p => p.cell e1
      obtain ⟨q1, hq1⟩ : ∃ q, Hid (dotOk x = q) := ⟨_, rfl⟩
      have C1 : Hid (∀ W, Calls Tryz.prog 127 #[.agg #[.int .i64 x.d, .int .i64 x.s]] W fun e w' => e = .returned (.bool q1) ∧ Below W.heap.size W w') := fun W => by rw [← hq1.out]; exact rightDot_any x W
      have y1 : (k : Int) < (n : Int) := by omega
      have y0 : (0 : Int) ≤ (k : Int) := by omega
      have HX := Lib.hid hx
      have HAT : Hid (dotAt l k = (q1 && (decide (k = 0) || overD (l.getD (k - 1) ⟨0, 0⟩) x))) := by show _ = _; rw [dotAt, getD_some hx, hq1.out]
      clear hld hx hw1 b1 r1
      go_upto_region 4 with fail
      rw [show wr.alloc (.cells #[.int .i64 x.d, .int .i64 x.s] 40) = w1 from HW.out.symm]
      clear HW
      cases q1 with
      | false =>
        have HF : Hid (r = false) := by show _ = _; rw [← hr.out]; exact allN_no (by rw [HL.out]; exact hlt) (by rw [HAT.out]; rfl)
        clear hb d0 d1 e0 e1
        refine wp_region_quiet_below (by kernel_rfl) (by kernel_rfl) ?_
        repeat (first | (with_reducible refine wpQuiet_step (fun K hK => ?_); go_simp; first | (with_reducible refine hK _ ?_; clear hK K) | (apply Exists.intro; with_reducible refine ⟨fun _ => ?_, hK _ ?_⟩; (go_at_call 127; exact Calls.quiet_below (C1.out _)); clear hK K)) | (with_reducible refine wpQuiet_pass (by kernel_rfl) ?_; (try simp only [Act.put, List.setIfInBounds_toArray, List.set_cons_zero, List.set_cons_succ])))
        with_reducible refine wpQuiet_nil ?_
        rintro wq ⟨⟨_, hq⟩, rfl⟩
        have HB2 := Lib.hid (below_then B1.out hq)
        clear k0 k1 hq
        go_wp2_with fail
        go_ret
        exact ⟨ret_bool HF.out.symm, HB2.out⟩
      | true =>
        by_cases hk0 : k = 0
        · have HT : Hid (dotAt l k = true) := by show _ = _; rw [HAT.out, decide_eq_true hk0]; rfl
          have z1 : ¬ (0 : Int) < (k : Int) := by omega
          have z2 : decide ((0 : Int) < (k : Int)) = false := decide_eq_false z1
          have z3 : decide (0 < k) = false := decide_eq_false (by omega)
          have z4 : ¬ 0 < k := by omega
          clear hb d0 d1 e0 e1 hk0
          refine wp_region_quiet_below (by kernel_rfl) (by kernel_rfl) ?_
          repeat (first | (with_reducible refine wpQuiet_step (fun K hK => ?_); go_simp; first | (with_reducible refine hK _ ?_; clear hK K) | (apply Exists.intro; with_reducible refine ⟨fun _ => ?_, hK _ ?_⟩; (go_at_call 127; exact Calls.quiet_below (C1.out _)); clear hK K)) | (with_reducible refine wpQuiet_pass (by kernel_rfl) ?_; (try simp only [Act.put, List.setIfInBounds_toArray, List.set_cons_zero, List.set_cons_succ])))
          with_reducible refine wpQuiet_nil ?_
          rintro wq ⟨⟨_, hq⟩, rfl⟩
          have HB2 := Lib.hid (below_then B1.out hq)
          have HN := Lib.hid (allN_next HA.out HT.out)
          clear k0 k1 hq
          go_wp2_with fail
          exact ⟨⟨k + 1, by omega, by go_num, HN, HB2⟩, by simp [intOf]; omega⟩
        · obtain ⟨b', o', x2, hA, hb2, hx2, hld2⟩ := HRD.out.dot (k := k - 1) (by omega)
          injection hA with hA
          injection hA with hA1 hA2
          subst hA1 hA2
          obtain ⟨m0, m1⟩ := hld2 _ B1.out
          have k2 : ∀ p : BelowOf w1, p.W.cell? ⟨b, o + (k - 1) * 2, none⟩ = _ := fun p => p.cell m0
          have k3 : ∀ p : BelowOf w1, p.W.cell? ⟨b, o + (k - 1) * 2 + 1, none⟩ = _ := fun p => p.cell m1
          obtain ⟨q2, hq2⟩ : ∃ q, Hid (cmpD x2 x = q) := ⟨_, rfl⟩
          have C2 : Hid (∀ W, Calls Tryz.prog 47 #[.agg #[.int .i64 x2.d, .int .i64 x2.s], .agg #[.int .i64 x.d, .int .i64 x.s]] W fun e w' => e = .returned (.int .i64 q2) ∧ Below W.heap.size W w') := fun W => by rw [← hq2.out]; exact (compare13_any x2 x W).mono fun _ _ h => ⟨h.1, h.2.below⟩
          have HOV : Hid (overD x2 x = decide (q2 < 0)) := by show _ = _; rw [← hq2.out, cmpD_under]
          have HAT2 : Hid (dotAt l k = decide (q2 < 0)) := by show _ = _; rw [HAT.out, decide_eq_false hk0, getD_some hx2, HOV.out]; rfl
          have z1 : (0 : Int) < (k : Int) := by omega
          have z2 : decide ((0 : Int) < (k : Int)) = true := decide_eq_true z1
          have z3 : decide (0 < k) = true := decide_eq_true (by omega)
          have z4 : 0 < k := by omega
          have z5 : (1 : Int) ≤ (k : Int) := by omega
          have z6 : 1 ≤ k := by omega
          have z7 : IntKind.i64.wrap ((k : Int) - 1) = (k : Int) - 1 := wrap_is (by omega)
          have z8 : ((k : Int) - 1).toNat = k - 1 := by omega
          have z9 : (0 : Int) ≤ (k : Int) - 1 := by omega
          have z10 : (k : Int) - 1 < (n : Int) := by omega
          clear hb d0 d1 e0 e1 hk0 hb2 hx2 hld2 m0 m1 HOV hq2
          refine wp_region_quiet_below (by kernel_rfl) (by kernel_rfl) ?_
          repeat (first | (with_reducible refine wpQuiet_step (fun K hK => ?_); go_simp; first | (with_reducible refine hK _ ?_; clear hK K) | (apply Exists.intro; with_reducible refine ⟨fun _ => ?_, hK _ ?_⟩; (first | (go_at_call 127; exact Calls.quiet_below (C1.out _)) | (go_at_call 47; exact Calls.quiet_below (C2.out _))); clear hK K)) | (with_reducible refine wpQuiet_pass (by kernel_rfl) ?_; (try simp only [Act.put, List.setIfInBounds_toArray, List.set_cons_zero, List.set_cons_succ])))
          with_reducible refine wpQuiet_nil ?_
          rintro wq ⟨⟨_, hq⟩, rfl⟩
          have HB2 := Lib.hid (below_then B1.out hq)
          clear k0 k1 k2 k3 hq z7 z8
          by_cases h0 : q2 < 0
          · have HT : Hid (dotAt l k = true) := by show _ = _; rw [HAT2.out]; exact decide_eq_true h0
            have HN := Lib.hid (allN_next HA.out HT.out)
            have g1 : ¬ (0 : Int) ≤ q2 := by omega
            go_wp2_with fail
            exact ⟨⟨k + 1, by omega, by go_num, HN, HB2⟩, by simp [intOf]; omega⟩
          · have HF : Hid (r = false) := by show _ = _; rw [← hr.out]; exact allN_no (by rw [HL.out]; exact hlt) (by rw [HAT2.out]; exact decide_eq_false h0)
            have g1 : (0 : Int) ≤ q2 := by omega
            go_wp2_with fail
            go_ret
            exact ⟨ret_bool HF.out.symm, HB2.out⟩
    · have HF : Hid (r = true) := by show _ = _; rw [← hr.out]; exact allN_yes (fun i hi => HA.out i (by rw [HL.out] at hi; omega))
      have y1 : ¬ (k : Int) < (n : Int) := by omega
      go_wp2_with fail
      go_ret
      exact ⟨ret_bool HF.out.symm, HB.out⟩
end Go.Proofs.YtfljhnalmiibeaaGreat

