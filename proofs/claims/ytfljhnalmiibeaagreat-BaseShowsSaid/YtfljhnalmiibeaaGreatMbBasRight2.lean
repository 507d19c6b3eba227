/- Several texts laid together: BasRight2, BasRight. -/
import Derived.Test.YtfljhnalmiibeaaGreatMbBasRef
import Derived.Test.YtfljhnalmiibeaaGreatMbSchRefT
import Derived.Test.YtfljhnalmiibeaaGreatMbSchQs
namespace Go.Proofs.YtfljhnalmiibeaaGreat
set_option maxRecDepth 100000
open Go.RowKit
set_option maxHeartbeats 6400000 in
theorem rightCell_any (x : C5) (y : CQ) (w : World) (h : CellR w x y) (hn : y.l.length ≤ 4294967000) :
    Calls Tryz.prog 97 #[x.val] w fun e w' => e = .returned (.bool (cellOk y)) ∧ Below w.heap.size w w' := by
  obtain ⟨hk, hv, hp⟩ := h
  obtain ⟨w1, hw1⟩ : ∃ w1, w1 = (w.alloc (cellRow x.k x.v (.slice x.A x.n x.c))) := ⟨_, rfl⟩
  have HW := Lib.hid hw1
  have r0 : w1.heap[w.heap.size]? = some (cellRow x.k x.v (.slice x.A x.n x.c)) := by rw [hw1]; exact new_row13 _ _ rfl
  have b1 : Below w.heap.size w w1 := by rw [hw1]; exact below_new (Below.refl _ _) _
  have sz : w1.heap.size = w.heap.size + 1 := by rw [hw1]; simp only [World.size_alloc]
  have HP1 := Lib.hid (hp.below b1)
  have HLX : Hid (y.l.length = x.n) := hp.len
  have HN : Hid (x.n ≤ 4294967000) := by show _ ≤ _; rw [← HLX.out]; exact hn
  obtain ⟨p0, p1, p2, p3, p4⟩ := cell_row5 r0
  have R0 := Lib.hid r0; have HB := Lib.hid b1
  clear hp hn r0 b1 sz hw1
  rw [hv] at HW p1 p2 p3 R0
  obtain ⟨xk, xv, xA, xn, xc⟩ := x
  dsimp only at hk hv HP1 HLX HN p0 p1 p2 p3 p4 HW R0
  subst hv hk
  rcases (show y.k = 0 ∨ y.k = 1 ∨ y.k = 2 ∨ y.k = 3 ∨ ¬ (y.k = 0 ∨ y.k = 1 ∨ y.k = 2 ∨ y.k = 3) by omega) with hk0 | hk1 | hk2 | hk3 | hk4
  · have HV : Hid (cellOk y = (y.v.right && decide (xn = 0))) := by show _ = _; rw [cellOk, if_pos hk0, HLX.out]
    rw [HV.out]
    have q0 : (y.k == 0) = true := by rw [hk0]; rfl
    clear hk0
    obtain ⟨qv, hqv⟩ : ∃ q, Hid (y.v.right = q) := ⟨_, rfl⟩
    have C := Lib.hid (right_val y.v w1)
    rw [hqv.out] at C ⊢
    cases qv with
    | false =>
      go_enter Tryz.func97, Tryz.ntmps97
      go_upto_region 1 with fail
      rw [show (w.alloc (cellRow y.k y.v (.slice xA xn xc))) = w1 from HW.out.symm]
      clear HW
      go_wp2_with (go_at_call 128; refine C.out.mono ?_; rintro e w2 ⟨rfl, b2⟩; obtain ⟨m0, m1, m2, m3, m4⟩ := cell_row5 (row_below R0.out b2))
      go_ret
      exact ⟨rfl, below_then HB.out b2⟩
    | true =>
      by_cases h0 : xn = 0
      · have z1 : ((xn : Int) == 0) = true := by rw [h0]; rfl
        have z2 : decide (xn = 0) = true := decide_eq_true h0
        rw [z2]
        clear h0
        go_enter Tryz.func97, Tryz.ntmps97
        go_upto_region 1 with fail
        rw [show (w.alloc (cellRow y.k y.v (.slice xA xn xc))) = w1 from HW.out.symm]
        clear HW
        go_wp2_with (go_at_call 128; refine C.out.mono ?_; rintro e w2 ⟨rfl, b2⟩; obtain ⟨m0, m1, m2, m3, m4⟩ := cell_row5 (row_below R0.out b2))
        go_ret
        exact ⟨by simp, below_then HB.out b2⟩
      · have z1 : ((xn : Int) == 0) = false := by rw [beq_eq_false_iff_ne]; omega
        have z2 : decide (xn = 0) = false := decide_eq_false h0
        rw [z2]
        clear h0
        go_enter Tryz.func97, Tryz.ntmps97
        go_upto_region 1 with fail
        rw [show (w.alloc (cellRow y.k y.v (.slice xA xn xc))) = w1 from HW.out.symm]
        clear HW
        go_wp2_with (go_at_call 128; refine C.out.mono ?_; rintro e w2 ⟨rfl, b2⟩; obtain ⟨m0, m1, m2, m3, m4⟩ := cell_row5 (row_below R0.out b2))
        go_ret
        exact ⟨by simp, below_then HB.out b2⟩
  · have HV : Hid (cellOk y = rightC y.k y.v y.l) := by show _ = _; rw [cellOk, if_neg (by omega), if_pos hk1]
    rw [HV.out]
    have q0 : (y.k == 0) = false := by rw [hk1]; rfl
    have q1 : (y.k == 1) = true := by rw [hk1]; rfl
    clear hk1
    obtain ⟨qv, hqv⟩ : ∃ q, Hid (rightC y.k y.v y.l = q) := ⟨_, rfl⟩
    have C := Lib.hid (right7_any y.k y.v xA xn xc y.l w1 HP1.out)
    rw [hqv.out] at C ⊢
    go_enter Tryz.func97, Tryz.ntmps97
    go_upto_region 1 with fail
    rw [show (w.alloc (cellRow y.k y.v (.slice xA xn xc))) = w1 from HW.out.symm]
    clear HW
    go_wp2_with (go_at_call 129; refine C.out.mono ?_; rintro e w2 ⟨rfl, b2⟩; obtain ⟨m0, m1, m2, m3, m4⟩ := cell_row5 (row_below R0.out b2))
    go_ret
    exact ⟨rfl, below_then HB.out b2⟩
  · have HV : Hid (cellOk y = decide (rightN y.k y.v xn = 0)) := by show _ = _; rw [cellOk, if_neg (by omega), if_neg (by omega), if_pos hk2, HLX.out]
    rw [HV.out]
    have q0 : (y.k == 0) = false := by rw [hk2]; rfl
    have q1 : (y.k == 1) = false := by rw [hk2]; rfl
    have q2 : (y.k == 2) = true := by rw [hk2]; rfl
    clear hk2
    obtain ⟨qv, hqv⟩ : ∃ q, Hid (rightN y.k y.v xn = q) := ⟨_, rfl⟩
    have C := Lib.hid (cntRight_any y.k y.v xA xn xc w1)
    rw [hqv.out] at C ⊢
    go_enter Tryz.func97, Tryz.ntmps97
    go_upto_region 1 with fail
    rw [show (w.alloc (cellRow y.k y.v (.slice xA xn xc))) = w1 from HW.out.symm]
    clear HW
    go_wp2_with (go_at_call 79; refine C.out.mono ?_; rintro e w2 ⟨rfl, b2⟩; obtain ⟨m0, m1, m2, m3, m4⟩ := cell_row5 (row_below R0.out b2))
    go_ret
    exact ⟨ret_bool (by by_cases h : qv = 0 <;> simp [h]), below_then HB.out b2⟩
  · have HV : Hid (cellOk y = rightS y.k y.v y.l) := by show _ = _; rw [cellOk, if_neg (by omega), if_neg (by omega), if_neg (by omega), if_pos hk3]
    rw [HV.out]
    have q0 : (y.k == 0) = false := by rw [hk3]; rfl
    have q1 : (y.k == 1) = false := by rw [hk3]; rfl
    have q2 : (y.k == 2) = false := by rw [hk3]; rfl
    have q3 : (y.k == 3) = true := by rw [hk3]; rfl
    clear hk3
    obtain ⟨qv, hqv⟩ : ∃ q, Hid (rightS y.k y.v y.l = q) := ⟨_, rfl⟩
    have C := Lib.hid (rightS_any y.k y.v xA xn xc y.l w1 HP1.out)
    rw [hqv.out] at C ⊢
    go_enter Tryz.func97, Tryz.ntmps97
    go_upto_region 1 with fail
    rw [show (w.alloc (cellRow y.k y.v (.slice xA xn xc))) = w1 from HW.out.symm]
    clear HW
    go_wp2_with (go_at_call 130; refine C.out.mono ?_; rintro e w2 ⟨rfl, b2⟩; obtain ⟨m0, m1, m2, m3, m4⟩ := cell_row5 (row_below R0.out b2))
    go_ret
    exact ⟨rfl, below_then HB.out b2⟩
  · have HV : Hid (cellOk y = decide (rightT10 y.k y.v y.l = 0)) := by show _ = _; rw [cellOk, if_neg (by omega), if_neg (by omega), if_neg (by omega), if_neg (by omega)]
    rw [HV.out]
    have q0 : (y.k == 0) = false := by rw [beq_eq_false_iff_ne]; omega
    have q1 : (y.k == 1) = false := by rw [beq_eq_false_iff_ne]; omega
    have q2 : (y.k == 2) = false := by rw [beq_eq_false_iff_ne]; omega
    have q3 : (y.k == 3) = false := by rw [beq_eq_false_iff_ne]; omega
    clear hk4
    obtain ⟨qv, hqv⟩ : ∃ q, Hid (rightT10 y.k y.v y.l = q) := ⟨_, rfl⟩
    have C := Lib.hid (rightT_any y.k y.v xA xn xc y.l w1 HP1.out HN.out)
    rw [hqv.out] at C ⊢
    go_enter Tryz.func97, Tryz.ntmps97
    go_upto_region 1 with fail
    rw [show (w.alloc (cellRow y.k y.v (.slice xA xn xc))) = w1 from HW.out.symm]
    clear HW
    go_wp2_with (go_at_call 81; refine C.out.mono ?_; rintro e w2 ⟨rfl, b2⟩; obtain ⟨m0, m1, m2, m3, m4⟩ := cell_row5 (row_below R0.out b2))
    go_ret
    exact ⟨ret_bool (by by_cases h : qv = 0 <;> simp [h]), below_then HB.out b2⟩
theorem lineOk_false {cols : List C4} {y : LQ} (h : ¬ (0 ≤ y.key ∧ y.key < 1073741824 ∧ y.cs.length = cols.length ∧ dotsOk y.by_ = true ∧ allN y.cs.length (cellAt cols y.cs) = true ∧ (y.cs.getD 0 default).v = ⟨1, y.key, ⟨#[]⟩⟩)) : lineOk cols y = false := by
  rcases e : lineOk cols y with _ | _
  · rfl
  · exfalso; apply h
    simp only [lineOk, Bool.and_eq_true, decide_eq_true_eq] at e
    exact ⟨e.1.1.1.1.1, e.1.1.1.1.2, e.1.1.1.2, e.1.1.2, e.1.2, e.2⟩
set_option maxHeartbeats 12800000 in
theorem rightLine_any (x : LnR) (y : LQ) (A : Option Addr) (n c : Nat) (cols : List C4) (w : World) (h : LineR w x y) (hc : RdC w A n c cols) (hs : LineOk y) (hn : n ≠ 0) :
    Calls Tryz.prog 59 #[x.agg, .slice A n c] w fun e w' => e = .returned (.bool (lineOk cols y)) ∧ Below w.heap.size w w' := by
  obtain ⟨xkey, xca, xcn, xcc, xba, xbn, xbc⟩ := x
  obtain ⟨hk, hcs, hby⟩ := h
  dsimp only at hk hcs hby
  subst hk
  obtain ⟨w1, hw1⟩ : ∃ w1, w1 = (w.alloc (lineBox ⟨y.key, xca, xcn, xcc, xba, xbn, xbc⟩)) := ⟨_, rfl⟩
  have HW := Lib.hid hw1
  have r0 : w1.heap[w.heap.size]? = some (lineBox ⟨y.key, xca, xcn, xcc, xba, xbn, xbc⟩) := by rw [hw1]; exact new_row13 _ _ rfl
  have b1 : Below w.heap.size w w1 := by rw [hw1]; exact below_new (Below.refl _ _) _
  have sz : w1.heap.size = w.heap.size + 1 := by rw [hw1]; simp only [World.size_alloc]
  obtain ⟨p0, p1, p2⟩ := line_row r0
  dsimp only at p0 p1 p2
  have hle := hc.le
  have hcn := hcs.le
  have HLC : Hid (y.cs.length = xcn) := hcs.len
  have HLN : Hid (cols.length = n) := hc.len
  have HCS := Lib.hid hcs; have HC := Lib.hid hc
  have HPP : Hid (∀ (k : Nat) (q : CQ), y.cs[k]? = some q → q.l.length ≤ 4294967000) := by show ∀ (k : Nat) (q : CQ), _; intro k q hq; exact hs.parts q (List.mem_of_getElem? hq)
  obtain ⟨qd, hqd⟩ : ∃ q, Hid (dotsOk y.by_ = q) := ⟨_, rfl⟩
  have CD := Lib.hid (rightDots_any xba xbn xbc y.by_ w1 (hby.below b1))
  rw [hqd.out] at CD
  have R0 := Lib.hid r0; have B1 := Lib.hid b1
  obtain ⟨r, hr⟩ : ∃ r, Hid (lineOk cols y = r) := ⟨_, rfl⟩
  rw [hr.out]
  obtain ⟨K, hK⟩ : ∃ K, Hid (y.key = K) := ⟨_, rfl⟩
  rw [hK.out] at p0 HW R0
  rw [hK.out]
  clear hcs hby hc hs r0 b1 sz hw1
  by_cases h1 : K < 0
  · have HF : Hid (r = false) := by show _ = _; rw [← hr.out]; exact lineOk_false (fun h => by have := h.1; rw [hK.out] at this; omega)
    go_enter Tryz.func59, Tryz.ntmps59
    go_upto_region 1 with fail
    rw [show (w.alloc (lineBox ⟨K, xca, xcn, xcc, xba, xbn, xbc⟩)) = w1 from HW.out.symm]
    clear HW
    go_wp2_with fail
    go_ret
    exact ⟨ret_bool HF.out.symm, B1.out⟩
  by_cases h2 : 1073741824 ≤ K
  · have HF : Hid (r = false) := by show _ = _; rw [← hr.out]; exact lineOk_false (fun h => by have := h.2.1; rw [hK.out] at this; omega)
    have h2b : K ≥ 1073741824 := h2
    go_enter Tryz.func59, Tryz.ntmps59
    go_upto_region 1 with fail
    rw [show (w.alloc (lineBox ⟨K, xca, xcn, xcc, xba, xbn, xbc⟩)) = w1 from HW.out.symm]
    clear HW
    go_wp2_with fail
    go_ret
    exact ⟨ret_bool HF.out.symm, B1.out⟩
  by_cases h3 : xcn = n
  rotate_left
  · have HF : Hid (r = false) := by show _ = _; rw [← hr.out]; exact lineOk_false (fun h => by have := h.2.2.1; rw [HLC.out, HLN.out] at this; omega)
    have h3a : ((xcn : Int) != (n : Int)) = true := by simp [bne]; omega
    have h3b : ¬ (xcn : Int) = (n : Int) := by omega
    go_enter Tryz.func59, Tryz.ntmps59
    go_upto_region 1 with fail
    rw [show (w.alloc (lineBox ⟨K, xca, xcn, xcc, xba, xbn, xbc⟩)) = w1 from HW.out.symm]
    clear HW
    go_wp2_with fail
    go_ret
    exact ⟨ret_bool HF.out.symm, B1.out⟩
  subst h3
  have h3a : ((xcn : Int) != (xcn : Int)) = false := by simp [bne]
  cases qd with
  | false =>
    have HF : Hid (r = false) := by show _ = _; rw [← hr.out]; exact lineOk_false (fun h => by have := h.2.2.2.1; rw [hqd.out] at this; cases this)
    go_enter Tryz.func59, Tryz.ntmps59
    go_upto_region 1 with fail
    rw [show (w.alloc (lineBox ⟨K, xca, xcn, xcc, xba, xbn, xbc⟩)) = w1 from HW.out.symm]
    clear HW
    go_wp2_with (go_at_call 96; refine CD.out.mono ?_; rintro e w2 ⟨rfl, b2⟩)
    go_ret
    exact ⟨ret_bool HF.out.symm, below_then B1.out b2⟩
  | true =>
    go_enter Tryz.func59, Tryz.ntmps59
    go_upto_region 1 with fail
    rw [show (w.alloc (lineBox ⟨K, xca, xcn, xcc, xba, xbn, xbc⟩)) = w1 from HW.out.symm]
    clear HW
    go_wp2_with (go_at_call 96; refine CD.out.mono ?_; rintro e w2 ⟨rfl, b2⟩; have B2 := Lib.hid (below_then B1.out b2); have R2 := Lib.hid (row_below R0.out b2); obtain ⟨m0, m1, m2⟩ := line_row R2.out; dsimp only at m0 m1 m2; clear b2)
    go_loopw [32] (fun i wr => ∃ k : Nat, k ≤ xcn ∧ i = .int .i64 k ∧ Hid (∀ i, i < k → cellAt cols y.cs i = true) ∧ Hid (wr.heap[w.heap.size]? = some (lineBox ⟨K, xca, xcn, xcc, xba, xbn, xbc⟩)) ∧ Hid (Below w.heap.size w wr)) (fun i _ => xcn - (intOf i).toNat)
    case atStart => exact ⟨0, Nat.zero_le _, rfl, fun i h => absurd h (by omega), R2, B2⟩
    case round =>
      clear R2 B2 m0 m1 m2
      obtain ⟨k, hk, rfl, HA, R2, B2⟩ := hrel
      by_cases hlt : k < xcn
      · obtain ⟨b, o, xq, yq, rfl, hb, hx, hr2, hcl⟩ := HCS.out.cell13 hlt
        obtain ⟨d0, d1, d2, d3, d4⟩ := hcl wr B2.out
        obtain ⟨b2, o2, cq, hA2, hb2, hcx, hcc⟩ := HC.out.col hlt
        subst hA2
        obtain ⟨wq, hwq⟩ : ∃ W, W = wr.alloc (cellRow xq.k xq.v (.slice xq.A xq.n xq.c)) := ⟨_, rfl⟩
        have HWQ := Lib.hid hwq
        have bq : Below wr.heap.size wr wq := by rw [hwq]; exact below_new (Below.refl _ _) _
        have rq : wq.heap[wr.heap.size]? = some (cellRow xq.k xq.v (.slice xq.A xq.n xq.c)) := by rw [hwq]; exact heap_alloc_new _ _
        obtain ⟨e0, e1, e2, e3, e4⟩ := cell_row5 rq
        have BQ := Lib.hid (below_then B2.out bq)
        have RQ := Lib.hid (row_below R2.out bq)
        obtain ⟨c0, c1, c2, c3⟩ := hcc wq BQ.out
        have k0 : ∀ p : BelowOf wq, p.W.cell? ⟨wr.heap.size, 0, none⟩ = _ := fun p => p.cell e0
        have k1 : ∀ p : BelowOf wq, p.W.cell? ⟨wr.heap.size, 1, none⟩ = _ := fun p => p.cell e1
        have k2 : ∀ p : BelowOf wq, p.W.cell? ⟨wr.heap.size, 2, none⟩ = _ := fun p => p.cell e2
        have k3 : ∀ p : BelowOf wq, p.W.cell? ⟨wr.heap.size, 3, none⟩ = _ := fun p => p.cell e3
        have k4 : ∀ p : BelowOf wq, p.W.cell? ⟨wr.heap.size, 4, none⟩ = _ := fun p => p.cell e4
        have k5 : ∀ p : BelowOf wq, p.W.cell? ⟨b2, o2 + k * 4 + 1, none⟩ = _ := fun p => p.cell c1
        have CR := cellR_keeps _ _ _ _ hr2 (sees_below BQ.out)
        have hkk : xq.k = yq.k := hr2.1
        have HYQ := Lib.hid hx; have HCX := Lib.hid hcx
        obtain ⟨q, hq⟩ : ∃ q, Hid (cellOk yq = q) := ⟨_, rfl⟩
        have C1 : Hid (∀ W, Below wq.heap.size wq W → Calls Tryz.prog 97 #[.agg #[.int .i64 xq.k, .int .i64 xq.v.k, .int .i64 xq.v.n, .string xq.v.s, .slice xq.A xq.n xq.c]] W fun e w' => e = .returned (.bool q) ∧ Below W.heap.size W w') := by
          show ∀ W, _; intro W hW
          rw [← hq.out]; exact rightCell_any xq yq W (cellR_keeps _ _ _ _ CR (sees_below hW)) (HPP.out k yq hx)
        have HAT : Hid (cellAt cols y.cs k = (decide (xq.k = cq.k) && q)) := by show _ = _; rw [cellAt, getD_some hx, getD_some hcx, hq.out, hkk]
        have y1 : (k : Int) < (xcn : Int) := by omega
        have y0 : (0 : Int) ≤ (k : Int) := by omega
        clear hcl hx hr2 hcc hcx hwq bq rq hb hb2 CR hkk c0 c2 c3 hq
        go_upto_region 6 with fail
        rw [show wr.alloc (Obj.cells #[Value.int .i64 xq.k, .int .i64 xq.v.k, .int .i64 xq.v.n, .string xq.v.s, .slice xq.A xq.n xq.c] 72) = wq from HWQ.out.symm]
        clear HWQ d0 d1 d2 d3 d4 e0 e1 e2 e3 e4 c1
        by_cases hne : xq.k = cq.k
        · have z1 : (xq.k != cq.k) = false := by simp [bne, hne]
          have HAT2 : Hid (cellAt cols y.cs k = q) := by show _ = _; rw [HAT.out, decide_eq_true hne]; rfl
          clear hne
          refine wp_region_quiet_below (by kernel_rfl) (by kernel_rfl) ?_
          repeat (first | (with_reducible refine wpQuiet_step (fun K hK => ?_); go_simp; first | (with_reducible refine hK _ ?_; clear hK K) | (apply Exists.intro; with_reducible refine ⟨fun _ => ?_, hK _ ?_⟩; (go_at_call 97; exact Calls.quiet_below (C1.out _ (BelowOf.h _))); clear hK K)) | (with_reducible refine wpQuiet_pass (by kernel_rfl) ?_; (try simp only [Act.put, List.setIfInBounds_toArray, List.set_cons_zero, List.set_cons_succ])))
          with_reducible refine wpQuiet_nil ?_
          rintro wq ⟨⟨_, hq⟩, rfl⟩
          have HB3 := Lib.hid (below_then BQ.out hq)
          have HR3 := Lib.hid (row_below RQ.out hq)
          clear k0 k1 k2 k3 k4 k5 hq
          cases q with
          | true =>
            have HN := Lib.hid (allN_next HA.out HAT2.out)
            go_wp2_with fail
            exact ⟨⟨k + 1, by omega, by go_num, HN, HR3, HB3⟩, by simp [intOf]; omega⟩
          | false =>
            have HF : Hid (r = false) := by show _ = _; rw [← hr.out]; exact lineOk_false (fun h => by have := h.2.2.2.2.1; rw [allN_no (by rw [HLC.out]; exact hlt) HAT2.out] at this; cases this)
            go_wp2_with fail
            go_ret
            exact ⟨ret_bool HF.out.symm, HB3.out⟩
        · have z1 : (xq.k != cq.k) = true := by simp [bne, hne]
          have HF : Hid (r = false) := by show _ = _; rw [← hr.out]; exact lineOk_false (fun h => by have := h.2.2.2.2.1; rw [allN_no (by rw [HLC.out]; exact hlt) (by rw [HAT.out, decide_eq_false hne]; rfl)] at this; cases this)
          clear hne
          refine wp_region_quiet_below (by kernel_rfl) (by kernel_rfl) ?_
          repeat (first | (with_reducible refine wpQuiet_step (fun K hK => ?_); go_simp; first | (with_reducible refine hK _ ?_; clear hK K) | (apply Exists.intro; with_reducible refine ⟨fun _ => ?_, hK _ ?_⟩; (fail); clear hK K)) | (with_reducible refine wpQuiet_pass (by kernel_rfl) ?_; (try simp only [Act.put, List.setIfInBounds_toArray, List.set_cons_zero, List.set_cons_succ])))
          with_reducible refine wpQuiet_nil ?_
          rintro wq ⟨⟨_, hq⟩, rfl⟩
          have HB3 := Lib.hid (below_then BQ.out hq)
          clear k0 k1 k2 k3 k4 k5 hq
          go_wp2_with fail
          go_ret
          exact ⟨ret_bool HF.out.symm, HB3.out⟩
      · have hke : k = xcn := by omega
        have y1 : ¬ (k : Int) < (xcn : Int) := by omega
        obtain ⟨b, o, xq, yq, rfl, hb, hx, hr2, hcl⟩ := HCS.out.cell13 (k := 0) (by omega)
        obtain ⟨d0, d1, d2, d3, d4⟩ := hcl wr B2.out
        rw [Nat.zero_mul, Nat.add_zero] at d1 d2 d3
        obtain ⟨m0, m1, m2⟩ := line_row R2.out
        dsimp only at m0 m1 m2
        have k1 : ∀ p : BelowOf wr, p.W.cell? ⟨b, o + 1, none⟩ = _ := fun p => p.cell d1
        have k2 : ∀ p : BelowOf wr, p.W.cell? ⟨b, o + 1 + 1, none⟩ = _ := fun p => p.cell d2
        have k3 : ∀ p : BelowOf wr, p.W.cell? ⟨b, o + 1 + 2, none⟩ = _ := fun p => p.cell d3
        have k4 : ∀ p : BelowOf wr, p.W.cell? ⟨w.heap.size, 0, none⟩ = _ := fun p => p.cell m0
        have k5 : ∀ p : BelowOf wr, p.W.cell? ⟨w.heap.size, 1, none⟩ = _ := fun p => p.cell m1
        have hv2 : xq.v = yq.v := hr2.2.1
        obtain ⟨q, hq⟩ : ∃ q, Hid (decide (xq.v = ⟨1, K, ⟨#[]⟩⟩) = q) := ⟨_, rfl⟩
        have EQ : ∀ W, (Op.equalIn 10000 68 (.agg #[.int .i64 xq.v.k, .int .i64 xq.v.n, .string xq.v.s]) (.agg #[.int .i64 1, .int .i64 K, .string ⟨#[]⟩])).run Tryz.prog W = .ok q W := fun W => by rw [run_equalIn_val, ← hq.out]; exact congrArg (fun z => Result.ok z W) (sameZ_is xq.v ⟨1, K, ⟨#[]⟩⟩)
        have HF : Hid (r = q) := by
          show _ = _
          rw [← hr.out, lineOk, hqd.out, decide_eq_true (show 0 ≤ y.key by rw [hK.out]; omega), decide_eq_true (show y.key < 1073741824 by rw [hK.out]; omega), decide_eq_true (show y.cs.length = cols.length by rw [HLC.out, HLN.out]), allN_yes (fun i hi => HA.out i (by rw [HLC.out] at hi; omega)), getD_some hx, ← hv2, hK.out, hq.out]
          rfl
        have n0 : (0 : Int) < (xcn : Int) := by omega
        have n1 : 0 < xcn := by omega
        clear hcl hx hr2 hb d0 d1 d2 d3 d4 m0 m1 m2 hv2 hq hke
        go_wp2_with fail
        refine wp_region_quiet_below (by kernel_rfl) (by kernel_rfl) ?_
        repeat (first | (with_reducible refine wpQuiet_step (fun K hK => ?_); go_simp; first | (with_reducible refine hK _ ?_; clear hK K) | (apply Exists.intro; with_reducible refine ⟨fun _ => ?_, hK _ ?_⟩; (fail); clear hK K)) | (with_reducible refine wpQuiet_pass (by kernel_rfl) ?_; (try simp only [Act.put, List.setIfInBounds_toArray, List.set_cons_zero, List.set_cons_succ])))
        with_reducible refine wpQuiet_nil ?_
        rintro wq ⟨⟨_, hq⟩, rfl⟩
        have HB3 := Lib.hid (below_then B2.out hq)
        clear k1 k2 k3 k4 k5 hq
        go_wp2_with fail
        go_ret
        exact ⟨ret_bool HF.out.symm, HB3.out⟩
end Go.Proofs.YtfljhnalmiibeaaGreat

namespace Go.Proofs.YtfljhnalmiibeaaGreat
set_option maxRecDepth 100000
open Go.RowKit
set_option maxHeartbeats 12800000 in
theorem linesRight_any (A : Option Addr) (n c : Nat) (l : List LQ) (B : Option Addr) (m d : Nat) (cols : List C4) (w0 w : World) (h : RdLs w0 A n c l) (hc : RdC w0 B m d cols) (hw : Below w0.heap.size w0 w) (hs : ∀ y ∈ l, LineOk y) (hm : m ≠ 0) :
    Calls Tryz.prog 34 #[.slice A n c, .slice B m d] w fun e w' => e = .returned (.bool (linesOk cols l)) ∧ Below w.heap.size w w' := by
  have hle := h.le
  have HLN : Hid (l.length = n) := h.len
  have HR := Lib.hid h; have HC := Lib.hid hc; have HW0 := Lib.hid hw
  have HS : Hid (∀ (k : Nat) (y : LQ), l[k]? = some y → LineOk y) := by show ∀ (k : Nat) (y : LQ), _; intro k y hy; exact hs y (List.mem_of_getElem? hy)
  obtain ⟨r, hr⟩ : ∃ r, Hid (linesOk cols l = r) := ⟨_, rfl⟩
  rw [hr.out]
  have HB0 := Lib.hid (Below.refl w.heap.size w)
  clear h hc hw hs
  by_cases h1 : 2000 < n
  · have HF : Hid (r = false) := by show _ = _; rw [← hr.out, linesOk, decide_eq_false (by rw [HLN.out]; omega)]; rfl
    have h1a : (n : Int) > 2000 := by omega
    have h1b : (2000 : Int) < (n : Int) := by omega
    go_enter Tryz.func34, Tryz.ntmps34
    go_wp2_with fail
    go_ret
    exact ⟨ret_bool HF.out.symm, HB0.out⟩
  have h1b : ¬ (2000 : Int) < (n : Int) := by omega
  have HRA : Hid (r = allN l.length (lineAt cols l)) := by show _ = _; rw [← hr.out, linesOk, decide_eq_true (by rw [HLN.out]; omega)]; rfl
  go_enter Tryz.func34, Tryz.ntmps34
  go_wp2_with fail
  go_loopw [12] (fun i wr => ∃ k : Nat, k ≤ n ∧ i = .int .i64 k ∧ Hid (∀ i, i < k → lineAt cols l i = true) ∧ Hid (Below w.heap.size w wr)) (fun i _ => n - (intOf i).toNat)
  case atStart => exact ⟨0, Nat.zero_le _, rfl, fun i h => absurd h (by omega), HB0⟩
  case round =>
    clear HB0
    obtain ⟨k, hk, rfl, HA, HB⟩ := hrel
    by_cases hlt : k < n
    · obtain ⟨b, o, x, y, rfl, hb, hx, hr2, hcl⟩ := HR.out.line13 hlt
      obtain ⟨d0, d1, d2⟩ := hcl wr (below_then HW0.out HB.out)
      obtain ⟨w1, hw1⟩ : ∃ W, W = wr.alloc (lineBox x) := ⟨_, rfl⟩
      have HW := Lib.hid hw1
      have b1 : Below wr.heap.size wr w1 := by rw [hw1]; exact below_new (Below.refl _ _) _
      have r1 : w1.heap[wr.heap.size]? = some (lineBox x) := by rw [hw1]; exact heap_alloc_new _ _
      obtain ⟨e0, e1, e2⟩ := line_row r1
      have B1 := Lib.hid (below_then HB.out b1)
      have k0 : ∀ p : BelowOf w1, p.W.cell? ⟨wr.heap.size, 0, none⟩ = _ := fun p => p.cell e0
      have k1 : ∀ p : BelowOf w1, p.W.cell? ⟨wr.heap.size, 1, none⟩ = _ := fun p => p.cell e1
      have k2 : ∀ p : BelowOf w1, p.W.cell? ⟨wr.heap.size, 2, none⟩ = _ := fun p => p.cell e2
      obtain ⟨q1, hq1⟩ : ∃ q, Hid (lineOk cols y = q) := ⟨_, rfl⟩
      have C1 : Hid (∀ W, Below w1.heap.size w1 W → Calls Tryz.prog 59 #[.agg #[.int .i64 x.key, .slice x.ca x.cn x.cc, .slice x.ba x.bn x.bc], .slice B m d] W fun e w' => e = .returned (.bool q1) ∧ Below W.heap.size W w') := by
        show ∀ W, _; intro W hW
        have b9 := below_then HW0.out (below_then B1.out hW)
        rw [← hq1.out]; exact rightLine_any x y B m d cols W (hr2.below b9) (HC.out.below b9) (HS.out k y hx) hm
      have y1 : (k : Int) < (n : Int) := by omega
      have y0 : (0 : Int) ≤ (k : Int) := by omega
      have HX := Lib.hid hx
      have hkey : x.key = y.key := hr2.1
      have HAT : Hid (lineAt cols l k = (q1 && (decide (k = 0) || decide ((l.getD (k - 1) default).key < x.key)))) := by show _ = _; rw [lineAt, getD_some hx, hq1.out, hkey]
      clear hcl hx hw1 b1 r1 hr2 hkey
      go_upto_region 6 with fail
      rw [show wr.alloc (.cells #[.int .i64 x.key, .slice x.ca x.cn x.cc, .slice x.ba x.bn x.bc] 37) = w1 from HW.out.symm]
      clear HW
      cases q1 with
      | false =>
        have HF : Hid (r = false) := by show _ = _; rw [HRA.out]; exact allN_no (by rw [HLN.out]; exact hlt) (by rw [HAT.out]; rfl)
        clear hb d0 d1 d2 e0 e1 e2
        refine wp_region_quiet_below (by kernel_rfl) (by kernel_rfl) ?_
        repeat (first | (with_reducible refine wpQuiet_step (fun K hK => ?_); go_simp; first | (with_reducible refine hK _ ?_; clear hK K) | (apply Exists.intro; with_reducible refine ⟨fun _ => ?_, hK _ ?_⟩; (go_at_call 59; exact Calls.quiet_below (C1.out _ (BelowOf.h _))); clear hK K)) | (with_reducible refine wpQuiet_pass (by kernel_rfl) ?_; (try simp only [Act.put, List.setIfInBounds_toArray, List.set_cons_zero, List.set_cons_succ])))
        with_reducible refine wpQuiet_nil ?_
        rintro wq ⟨⟨_, hq⟩, rfl⟩
        have HB2 := Lib.hid (below_then B1.out hq)
        clear k0 k1 k2 hq
        go_wp2_with fail
        go_ret
        exact ⟨ret_bool HF.out.symm, HB2.out⟩
      | true =>
        by_cases hk0 : k = 0
        · have HT : Hid (lineAt cols l k = true) := by show _ = _; rw [HAT.out, decide_eq_true hk0]; rfl
          have z1 : ¬ (0 : Int) < (k : Int) := by omega
          have z2 : decide ((0 : Int) < (k : Int)) = false := decide_eq_false z1
          have z3 : decide (0 < k) = false := decide_eq_false (by omega)
          have z4 : ¬ 0 < k := by omega
          clear hb d0 d1 d2 e0 e1 e2 hk0
          refine wp_region_quiet_below (by kernel_rfl) (by kernel_rfl) ?_
          repeat (first | (with_reducible refine wpQuiet_step (fun K hK => ?_); go_simp; first | (with_reducible refine hK _ ?_; clear hK K) | (apply Exists.intro; with_reducible refine ⟨fun _ => ?_, hK _ ?_⟩; (go_at_call 59; exact Calls.quiet_below (C1.out _ (BelowOf.h _))); clear hK K)) | (with_reducible refine wpQuiet_pass (by kernel_rfl) ?_; (try simp only [Act.put, List.setIfInBounds_toArray, List.set_cons_zero, List.set_cons_succ])))
          with_reducible refine wpQuiet_nil ?_
          rintro wq ⟨⟨_, hq⟩, rfl⟩
          have HB2 := Lib.hid (below_then B1.out hq)
          have HN := Lib.hid (allN_next HA.out HT.out)
          clear k0 k1 k2 hq
          go_wp2_with fail
          exact ⟨⟨k + 1, by omega, by go_num, HN, HB2⟩, by simp [intOf]; omega⟩
        · obtain ⟨b', o', x2, y2, hA, hb2, hx2, hr3, hcl2⟩ := HR.out.line13 (k := k - 1) (by omega)
          injection hA with hA
          injection hA with hA1 hA2
          subst hA1 hA2
          obtain ⟨m0, m1, m2⟩ := hcl2 _ (below_then HW0.out B1.out)
          have k3 : ∀ p : BelowOf w1, p.W.cell? ⟨b, o + (k - 1) * 3, none⟩ = _ := fun p => p.cell m0
          obtain ⟨K1, hK1⟩ : ∃ K, Hid (x2.key = K) := ⟨_, rfl⟩
          obtain ⟨K2, hK2⟩ : ∃ K, Hid (x.key = K) := ⟨_, rfl⟩
          have HAT2 : Hid (lineAt cols l k = decide (K1 < K2)) := by show _ = _; rw [HAT.out, decide_eq_false hk0, getD_some hx2, ← hr3.1, hK1.out, hK2.out]; rfl
          rw [hK1.out] at k3
          rw [hK2.out] at k0 C1
          have z1 : (0 : Int) < (k : Int) := by omega
          have z2 : decide ((0 : Int) < (k : Int)) = true := decide_eq_true z1
          have z3 : decide (0 < k) = true := decide_eq_true (by omega)
          have z4 : 0 < k := by omega
          have z5 : (1 : Int) ≤ (k : Int) := by omega
          have z6 : 1 ≤ k := by omega
          have z7 : IntKind.i64.wrap ((k : Int) - 1) = (k : Int) - 1 := wrap_is (by omega)
          have z8 : ((k : Int) - 1).toNat = k - 1 := by omega
          have z9 : (0 : Int) ≤ (k : Int) - 1 := by omega
          have z10 : (k : Int) - 1 < (n : Int) := by omega
          clear hb d0 d1 d2 e0 e1 e2 hk0 hb2 hx2 hcl2 m0 m1 m2 hr3 hK1 hK2
          refine wp_region_quiet_below (by kernel_rfl) (by kernel_rfl) ?_
          repeat (first | (with_reducible refine wpQuiet_step (fun K hK => ?_); go_simp; first | (with_reducible refine hK _ ?_; clear hK K) | (apply Exists.intro; with_reducible refine ⟨fun _ => ?_, hK _ ?_⟩; (go_at_call 59; exact Calls.quiet_below (C1.out _ (BelowOf.h _))); clear hK K)) | (with_reducible refine wpQuiet_pass (by kernel_rfl) ?_; (try simp only [Act.put, List.setIfInBounds_toArray, List.set_cons_zero, List.set_cons_succ])))
          with_reducible refine wpQuiet_nil ?_
          rintro wq ⟨⟨_, hq⟩, rfl⟩
          have HB2 := Lib.hid (below_then B1.out hq)
          clear k0 k1 k2 k3 hq z7 z8
          by_cases h0 : K1 < K2
          · have HT : Hid (lineAt cols l k = true) := by show _ = _; rw [HAT2.out]; exact decide_eq_true h0
            have HN := Lib.hid (allN_next HA.out HT.out)
            have g1 : ¬ K2 ≤ K1 := by omega
            go_wp2_with fail
            exact ⟨⟨k + 1, by omega, by go_num, HN, HB2⟩, by simp [intOf]; omega⟩
          · have HF : Hid (r = false) := by show _ = _; rw [HRA.out]; exact allN_no (by rw [HLN.out]; exact hlt) (by rw [HAT2.out]; exact decide_eq_false h0)
            have g1 : K2 ≤ K1 := by omega
            go_wp2_with fail
            go_ret
            exact ⟨ret_bool HF.out.symm, HB2.out⟩
    · have HF : Hid (r = true) := by show _ = _; rw [HRA.out]; exact allN_yes (fun i hi => HA.out i (by rw [HLN.out] at hi; omega))
      have y1 : ¬ (k : Int) < (n : Int) := by omega
      go_wp2_with fail
      go_ret
      exact ⟨ret_bool HF.out.symm, HB.out⟩
theorem baseOk_false {s : List T6} {b : List (List LQ)} (h : ¬ (rightE s = 0 ∧ b.length = s.length ∧ allN s.length (fun i => linesOk (s.getD i default).cols (linesB b i)) = true)) : baseOk s b = false := by
  rcases e : baseOk s b with _ | _
  · rfl
  · exfalso; apply h
    simp only [baseOk, Bool.and_eq_true, decide_eq_true_eq] at e
    exact ⟨e.1.1, e.1.2, e.2⟩
set_option maxHeartbeats 12800000 in
theorem right13_any (SA : Option Addr) (sn sc : Nat) (s : List T6) (A : Option Addr) (n c : Nat) (b : List (List LQ)) (w : World) (h : RdS11 w SA sn sc s) (hb : RdB w A n c b) (hok : BaseOk b) :
    Calls Tryz.prog 12 #[.agg #[.slice SA sn sc], .agg #[.slice A n c]] w fun e w' => e = .returned (.bool (baseOk s b)) ∧ Below w.heap.size w w' := by
  have hle := h.le
  have hbn := hb.le
  have HLS : Hid (s.length = sn) := h.len
  have HLB : Hid (b.length = n) := hb.len
  obtain ⟨w1, hw1⟩ : ∃ w1, w1 = ((w.alloc (.cells #[.slice SA sn sc] 24)).alloc (baseBox A n c)) := ⟨_, rfl⟩
  have HW := Lib.hid hw1
  have r0 : w1.heap[w.heap.size]? = some (.cells #[.slice SA sn sc] 24) := by rw [hw1]; exact old_row13 _ (new_row13 _ _ rfl)
  have r1 : w1.heap[w.heap.size + 1]? = some (baseBox A n c) := by rw [hw1]; exact new_row13 _ _ (by simp only [World.size_alloc])
  have b1 : Below w.heap.size w w1 := by rw [hw1]; exact below_new (below_new (Below.refl _ _) _) _
  have sz : w1.heap.size = w.heap.size + 1 + 1 := by rw [hw1]; simp only [World.size_alloc]
  obtain ⟨p0⟩ : w1.cell? ⟨w.heap.size, 0, none⟩ = some (.slice SA sn sc) ∧ True := ⟨cell_row r0 0, trivial⟩
  have p1 := base_row r1
  have HR := Lib.hid h; have HBR := Lib.hid hb
  have HOK := Lib.hid hok
  obtain ⟨r, hr⟩ : ∃ r, Hid (baseOk s b = r) := ⟨_, rfl⟩
  rw [hr.out]
  obtain ⟨z, hz⟩ : ∃ z, Hid (rightE s = z) := ⟨_, rfl⟩
  have C := Lib.hid (right11_any SA sn sc s w1 (h.below b1))
  rw [hz.out] at C
  have R0 := Lib.hid r0; have R1 := Lib.hid r1; have B1 := Lib.hid b1
  clear h hb hok r0 b1 sz hw1 r1
  generalize hg1 : w.heap.size + 1 = g1 at R1 p1 ⊢
  have HG1 := Lib.hid hg1
  clear hg1
  by_cases hz0 : z = 0
  rotate_left
  · have HF : Hid (r = false) := by show _ = _; rw [← hr.out]; exact baseOk_false (fun h => hz0 (by rw [← hz.out]; exact h.1))
    have q0 : (z != 0) = true := by simp [bne, hz0]
    go_enter Tryz.func12, Tryz.ntmps12
    go_upto_region 1 with fail
    rw [show ((w.alloc (.cells #[.slice SA sn sc] 24)).alloc (baseBox A n c)) = w1 from HW.out.symm]
    clear HW hz0
    rw [HG1.out]
    go_wp2_with (go_at_call 32; refine C.out.mono ?_; rintro e w2 ⟨rfl, b2⟩)
    go_ret
    exact ⟨ret_bool HF.out.symm, below_then B1.out b2⟩
  subst hz0
  by_cases hn : n = sn
  rotate_left
  · have HF : Hid (r = false) := by show _ = _; rw [← hr.out]; exact baseOk_false (fun h => hn (by rw [← HLB.out, ← HLS.out]; exact h.2.1))
    have q0 : ((n : Int) != (sn : Int)) = true := by simp [bne]; omega
    have q1 : ¬ (n : Int) = (sn : Int) := by omega
    clear hn
    go_enter Tryz.func12, Tryz.ntmps12
    go_upto_region 1 with fail
    rw [show ((w.alloc (.cells #[.slice SA sn sc] 24)).alloc (baseBox A n c)) = w1 from HW.out.symm]
    clear HW
    rw [HG1.out]
    go_wp2_with (go_at_call 32; refine C.out.mono ?_; rintro e w2 ⟨rfl, b2⟩; have t0 : w2.cell? ⟨w.heap.size, 0, none⟩ = some (.slice SA sn sc) := cell_row (row_below R0.out b2) 0; have t1 := base_row (row_below R1.out b2))
    go_ret
    exact ⟨ret_bool HF.out.symm, below_then B1.out b2⟩
  subst hn
  have HRA : Hid (r = allN s.length (fun i => linesOk (s.getD i default).cols (linesB b i))) := by show _ = _; rw [← hr.out, baseOk, hz.out, decide_eq_true rfl, decide_eq_true (by rw [HLB.out, HLS.out])]; rfl
  have q0 : ((n : Int) != (n : Int)) = false := by simp [bne]
  go_enter Tryz.func12, Tryz.ntmps12
  go_upto_region 1 with fail
  rw [show ((w.alloc (.cells #[.slice SA n sc] 24)).alloc (baseBox A n c)) = w1 from HW.out.symm]
  clear HW
  rw [HG1.out]
  go_wp2_with (go_at_call 32; refine C.out.mono ?_; rintro e w2 ⟨rfl, b2⟩; have B2 := Lib.hid (below_then B1.out b2); have T1 := Lib.hid (row_below R1.out b2); have t0 : w2.cell? ⟨w.heap.size, 0, none⟩ = some (.slice SA n sc) := cell_row (row_below R0.out b2) 0; have t1 := base_row T1.out; clear b2)
  go_loopw [22] (fun i wr => ∃ k : Nat, k ≤ n ∧ i = .int .i64 k ∧ Hid (∀ i, i < k → linesOk (s.getD i default).cols (linesB b i) = true) ∧ Hid (wr.heap[g1]? = some (baseBox A n c)) ∧ Hid (Below w.heap.size w wr)) (fun i _ => n - (intOf i).toNat)
  case atStart => exact ⟨0, Nat.zero_le _, rfl, fun i h => absurd h (by omega), T1, B2⟩
  case round =>
    clear T1 B2 t0 t1
    obtain ⟨k, hk, rfl, HA, T1, HB⟩ := hrel
    by_cases hlt : k < n
    · obtain ⟨bb, o, x, rfl, hbb, hx, hxr, hcl⟩ := HR.out.tab hlt
      obtain ⟨d0, d1, d2, d3, d4, d5⟩ := hcl wr HB.out
      obtain ⟨wq, hwq⟩ : ∃ W, W = wr.alloc (tabBox x) := ⟨_, rfl⟩
      have HWQ := Lib.hid hwq
      have bq : Below wr.heap.size wr wq := by rw [hwq]; exact below_new (Below.refl _ _) _
      have rq : wq.heap[wr.heap.size]? = some (tabBox x) := by rw [hwq]; exact heap_alloc_new _ _
      obtain ⟨e0, e1, e2, e3, e4, e5⟩ := tab_row rq
      have BQ := Lib.hid (below_then HB.out bq)
      have TQ := Lib.hid (row_below T1.out bq)
      have tq := base_row TQ.out
      have k0 : ∀ p : BelowOf wq, p.W.cell? ⟨wr.heap.size, 1, none⟩ = _ := fun p => p.cell e1
      have k1 : ∀ p : BelowOf wq, p.W.cell? ⟨g1, 0, none⟩ = _ := fun p => p.cell tq
      obtain ⟨q1, hq1⟩ : ∃ q, Hid (linesOk x.cols (linesB b k) = q) := ⟨_, rfl⟩
      have HNC : Hid (x.nc ≠ 0) := by
        show _ ≠ _
        exact (tabErr_size ((rightE_tab hz.out).2.2 k x hx)).1
      have HT0 : Hid (linesOk (s.getD k default).cols (linesB b k) = q1) := by show _ = _; rw [getD_some hx, hq1.out]
      have CT : Hid (∀ W, Below wq.heap.size wq W → Calls Tryz.prog 33 #[.agg #[.slice A n c], .int .i64 (k : Int)] W fun e w' => ∃ (u : SlR), e = .returned (tableV u.a u.n u.c A n c (k : Int)) ∧ RdLs w u.a u.n u.c (linesB b k) ∧ Below W.heap.size W w') := by
        show ∀ W, _; intro W hW
        exact tableOf_any A n c b k w W HBR.out (below_then BQ.out hW)
      have CR : Hid (∀ (W : World) (u : SlR), Below wq.heap.size wq W → RdLs w u.a u.n u.c (linesB b k) → Calls Tryz.prog 34 #[.slice u.a u.n u.c, .slice x.ca x.nc x.cc] W fun e w' => e = .returned (.bool q1) ∧ Below W.heap.size W w') := by
        show ∀ W u, _; intro W u hW hu
        rw [← hq1.out]
        exact linesRight_any u.a u.n u.c (linesB b k) x.ca x.nc x.cc x.cols w W hu hxr.cols (below_then BQ.out hW) (fun y hy => by obtain ⟨l, h1, h2⟩ := linesB_mem hy; exact HOK.out.each l h1 y h2) HNC.out
      have FLD : ∀ (X Y Z : Value) (W : World), (Instr.field 83 (.agg #[X, Y, Z]) 0).run Tryz.prog W = .ok X W := fun X Y Z W => by kernel_rfl
      have y1 : (k : Int) < (n : Int) := by omega
      have y0 : (0 : Int) ≤ (k : Int) := by omega
      clear hcl hx hxr hwq bq rq hbb
      go_upto_region 6 with fail
      rw [show wr.alloc (.cells #[.string x.nm, .slice x.ca x.nc x.cc, .slice x.ua x.nu x.uc, .slice x.ha x.nh x.hc, .slice x.fa x.nf x.fc, .slice x.sa x.ns x.sc] 66) = wq from HWQ.out.symm]
      clear HWQ d0 d1 d2 d3 d4 d5 e0 e2 e3 e4 e5
      have hS0 : wq.cell? ⟨wr.heap.size, 1, none⟩ = some (.slice x.ca x.nc x.cc) ∧ wq.cell? ⟨g1, 0, none⟩ = some (.slice A n c) ∧ wr.heap.size < wq.heap.size ∧ g1 < wq.heap.size := ⟨e1, tq, World.block_lt_of_cell? _ _ e1, World.block_lt_of_cell? _ _ tq⟩
      have K : Hid (∀ W W' : World, (W.cell? ⟨wr.heap.size, 1, none⟩ = some (.slice x.ca x.nc x.cc) ∧ W.cell? ⟨g1, 0, none⟩ = some (.slice A n c) ∧ wr.heap.size < W.heap.size ∧ g1 < W.heap.size) → Below W.heap.size W W' → (W'.cell? ⟨wr.heap.size, 1, none⟩ = some (.slice x.ca x.nc x.cc) ∧ W'.cell? ⟨g1, 0, none⟩ = some (.slice A n c) ∧ wr.heap.size < W'.heap.size ∧ g1 < W'.heap.size)) := by
        show ∀ W W', _
        rintro W W' ⟨i1, i2, i3, i4⟩ hb
        exact ⟨(hb.cell (p := ⟨_, 1, none⟩) i3).trans i1, (hb.cell (p := ⟨_, 0, none⟩) i4).trans i2, Nat.lt_of_lt_of_le i3 hb.size, Nat.lt_of_lt_of_le i4 hb.size⟩
      clear e1 tq k0 k1
      go_region_held3 (fun W => W.cell? ⟨wr.heap.size, 1, none⟩ = some (.slice x.ca x.nc x.cc) ∧ W.cell? ⟨g1, 0, none⟩ = some (.slice A n c) ∧ wr.heap.size < W.heap.size ∧ g1 < W.heap.size)
        (first
          | exact K.out _ _ hS0 ((Below.refl _ _).drew)
          | exact K.out _ _ hSx bb
          | exact K.out _ _ (by assumption) bb)
        (first
          | (go_at_call 33; refine (CT.out _ (by first | exact (Below.refl _ _).drew | exact Below.refl _ _)).mono ?_; rintro e wx ⟨u, rfl, hu, bb⟩; have bx := below_then (Below.refl wq.heap.size wq).drew bb; have hSx := K.out _ _ hS0 bx)
          | (go_at_call 34; refine (CR.out _ u bx hu).mono ?_; rintro e wy ⟨rfl, bb⟩; have by_ := below_then bx bb))
      all_goals
        have HB3 := Lib.hid (below_then BQ.out by_)
        have T3 := Lib.hid (row_below TQ.out by_)
        clear bb bx by_ hu hS0 hSx
        cases q1 with
        | true =>
          have HN := Lib.hid (allN_next HA.out HT0.out)
          go_wp2_with fail
          exact ⟨⟨k + 1, by omega, by go_num, HN, T3, HB3⟩, by simp [intOf]; omega⟩
        | false =>
          have HF : Hid (r = false) := by show _ = _; rw [HRA.out]; exact allN_no (by rw [HLS.out]; exact hlt) HT0.out
          go_wp2_with fail
          go_ret
          exact ⟨ret_bool HF.out.symm, HB3.out⟩
    · have HF : Hid (r = true) := by show _ = _; rw [HRA.out]; exact allN_yes (fun i hi => HA.out i (by rw [HLS.out] at hi; omega))
      have y1 : ¬ (k : Int) < (n : Int) := by omega
      go_wp2_with fail
      go_ret
      exact ⟨ret_bool HF.out.symm, HB.out⟩
end Go.Proofs.YtfljhnalmiibeaaGreat

