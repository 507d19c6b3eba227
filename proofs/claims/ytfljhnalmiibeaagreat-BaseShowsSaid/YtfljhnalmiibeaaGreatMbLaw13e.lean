/- Whatever schema, base and table come in: BaseShows answers true: a base that is right shows as many rows as it has lines, each with its key at its first place, and as many values as its table has columns. No condition. -/
import Derived.Test.YtfljhnalmiibeaaGreatRows
import Derived.Test.YtfljhnalmiibeaaGreatMbMem
import Derived.Test.YtfljhnalmiibeaaGreatMbBasLawM
import Derived.Test.YtfljhnalmiibeaaGreatMbBasOpen
import Derived.Test.YtfljhnalmiibeaaGreatMbVecOpen
namespace Go.Proofs.YtfljhnalmiibeaaGreat.baseShows
open Go.ChangeShapes Go.WideShapes Go.ChangeAt Go.RowKit Go.ChangeMaps
set_option maxRecDepth 100000 in
set_option maxHeartbeats 25600000 in
theorem walk (A : Option Addr) (n c : Nat) (l : List T6) (B : Option Addr) (m d : Nat) (b : List (List LQ)) (t : Int) (w : World) (hs : RdS11 w A n c l) (hb : RdB w B m d b) (hL : ∀ q ∈ b, q.length ≤ 140737488355328) : Calls Tryz.prog 8 #[.agg #[.slice A n c], .agg #[.slice B m d], .int .i64 t] w fun e w' => e = .returned (.bool true) ∧ Below w.heap.size w w' := by
  have hle := hs.le
  have HN := Lib.hid hs.len
  have HM := Lib.hid hb.len
  obtain ⟨w1, hw1⟩ : ∃ w1, w1 = ((w.alloc (schBox A n c)).alloc (baseBox B m d)) := ⟨_, rfl⟩
  have HW1 := Lib.hid hw1
  have HB : Hid (Below w.heap.size w w1) := by rw [hw1]; exact below_new (below_new (Below.refl _ _) _) _
  have R0 : Hid (w1.heap[w.heap.size]? = some (schBox A n c)) := by rw [hw1]; exact old_row13 _ (new_row13 _ _ rfl)
  have R1 : Hid (w1.heap[w.heap.size + 1]? = some (baseBox B m d)) := by rw [hw1]; exact new_row13 _ _ (by simp only [World.size_alloc])
  have HS := Lib.hid (hs.below HB.out)
  have RB := Lib.hid (hb.below dataR_keeps HB.out)
  clear hw1 hs hb
  go_enter Tryz.func8, Tryz.ntmps8
  go_upto_region 1 with fail
  rw [show ((w.alloc (schBox A n c)).alloc (baseBox B m d)) = w1 from HW1.out.symm]
  clear HW1
  have R1_0 := base_row R1.out
  go_wp2_with fail
  refine (few13_any B m d b _ RB.out hL).mono ?_
  rintro e w2 ⟨q, rfl, hq, b⟩
  clear R1_0
  replace R0 := Lib.hid (row_below R0.out b)
  replace R1 := Lib.hid (row_below R1.out b)
  replace HS := Lib.hid (HS.out.below b)
  replace RB := Lib.hid (RB.out.below dataR_keeps b)
  replace HB := Lib.hid (below_then HB.out b)
  clear b hL
  cases q with
  | false =>
    clear hq
    go_wp2_with fail
    refine (alive13_any _).mono ?_
    rintro e wz ⟨rfl, bz⟩
    have HZ := Lib.hid (below_then HB.out bz)
    clear bz
    go_wp2_with fail
    go_ret
    exact ⟨rfl, HZ.out⟩
  | true =>
    have HF : Hid (FewB b) := hq rfl
    clear hq
    have R0_0 := sch_row R0.out
    by_cases hn : (20 : Int) < (n : Int)
    · skip
      go_wp2_with fail
      refine (alive13_any _).mono ?_
      rintro e wz ⟨rfl, bz⟩
      have HZ := Lib.hid (below_then HB.out bz)
      clear bz
      go_wp2_with fail
      go_ret
      exact ⟨rfl, HZ.out⟩
    clear R0_0
    obtain ⟨r, hr⟩ : ∃ r, Hid (baseOk l b = r) := ⟨_, rfl⟩
    have R0_0 := sch_row R0.out
    have R1_0 := base_row R1.out
    go_wp2_with fail
    refine (right_is HS.out RB.out HF.out.ok hr).mono ?_
    rintro e w4 ⟨rfl, b⟩
    clear R0_0 R1_0
    replace R0 := Lib.hid (row_below R0.out b)
    replace R1 := Lib.hid (row_below R1.out b)
    replace HS := Lib.hid (HS.out.below b)
    replace RB := Lib.hid (RB.out.below dataR_keeps b)
    replace HB := Lib.hid (below_then HB.out b)
    clear b
    cases r with
    | false =>
      clear hr
      go_wp2_with fail
      refine (alive13_any _).mono ?_
      rintro e wz ⟨rfl, bz⟩
      have HZ := Lib.hid (below_then HB.out bz)
      clear bz
      go_wp2_with fail
      go_ret
      exact ⟨rfl, HZ.out⟩
    | true =>
      by_cases ht0 : t < 0
      · skip
        go_wp2_with fail
        refine (alive13_any _).mono ?_
        rintro e wz ⟨rfl, bz⟩
        have HZ := Lib.hid (below_then HB.out bz)
        clear bz
        go_wp2_with fail
        go_ret
        exact ⟨rfl, HZ.out⟩
      by_cases htm : (m : Int) ≤ t
      · skip
        have R1_0 := base_row R1.out
        go_wp2_with fail
        refine (alive13_any _).mono ?_
        rintro e wz ⟨rfl, bz⟩
        have HZ := Lib.hid (below_then HB.out bz)
        clear bz
        go_wp2_with fail
        go_ret
        exact ⟨rfl, HZ.out⟩
      obtain ⟨kt, rfl⟩ : ∃ kt : Nat, t = (kt : Int) := ⟨t.toNat, by omega⟩
      have hkm : kt < m := by omega
      have y0 : (0 : Int) ≤ (kt : Int) := by omega
      have y1 : (kt : Int) < (m : Int) := by omega
      have hkn : kt < n := by have h1 := (baseOk_iff.1 hr.out).2.1; have h2 : b.length = m := HM.out; have h3 : l.length = n := HN.out; omega
      have y2 : (kt : Int) < (n : Int) := by omega
      obtain ⟨db, do_, ⟨la, ln, lc⟩, L, hB, hdb, hL, hRL, hcell⟩ := RB.out.data13 hkm
      obtain ⟨tb, to_, tx, hA, htb, htx, htr, htc⟩ := HS.out.tab hkn
      dsimp only at hRL hcell
      obtain ⟨tca, hta⟩ : ∃ z, tx.ca = z := ⟨_, rfl⟩
      obtain ⟨tnc, htn⟩ : ∃ z, tx.nc = z := ⟨_, rfl⟩
      obtain ⟨tcc, htk⟩ : ∃ z, tx.cc = z := ⟨_, rfl⟩
      have HLK : Hid (linesB b (kt : Int) = L) := by show _ = _; unfold linesB; rw [if_pos (by omega), List.getD_eq_getElem?_getD, Int.toNat_natCast, hL]; rfl
      have SHL : Hid (∀ (k : Nat) (y : LQ), L[k]? = some y → (rowQ y).length = tnc ∧ (rowQ y).length ≠ 0 ∧ (rowQ y)[0]? = some ⟨1, y.key, ⟨#[]⟩⟩) := by
        show ∀ (k : Nat) (y : LQ), _
        intro k y hy
        have h1 := shows_len (t := kt) hr.out (fun q hq => (HS.out.each q hq).cols.len) (by have h2 : b.length = m := HM.out; omega) (by rw [HLK.out]; exact hy)
        rw [List.getD_eq_getElem?_getD, htx] at h1
        rw [← htn]
        exact ⟨h1.1.trans htr.cols.len, h1.2⟩
      have OK : Hid (∀ (k : Nat) (y : LQ), L[k]? = some y → LineOk y) := by
        show ∀ (k : Nat) (y : LQ), _
        intro k y hy
        exact HF.out.ok.each L (List.mem_of_getElem? hL) y (List.mem_of_getElem? hy)
      have HDC : Hid (∀ W, Below w4.heap.size w4 W → W.cell? ⟨db, do_ + kt, none⟩ = some (.slice la ln lc)) := hcell
      have HTC : Hid (∀ W, Below w4.heap.size w4 W → W.cell? ⟨tb, to_ + kt * 6 + 1, none⟩ = some (.slice tca tnc tcc)) := fun W hW => by rw [← hta, ← htn, ← htk]; exact (htc W hW).2.1
      have HRL := Lib.hid hRL
      have T4 := Lib.hid (Below.refl w4.heap.size w4)
      subst hB
      subst hA
      clear hcell htc hRL htb hdb htr hkm hkn hta htn htk htx
      have R1_0 := base_row R1.out
      go_wp2_with fail
      refine (shown13_any _ m d b kt _ _ RB.out (Below.refl _ _) HF.out.ok).mono ?_
      rintro e w5 ⟨⟨ra, rn, rc⟩, rfl, h, b⟩
      clear R1_0
      replace R0 := Lib.hid (row_below R0.out b)
      replace R1 := Lib.hid (row_below R1.out b)
      replace HS := Lib.hid (HS.out.below b)
      replace RB := Lib.hid (RB.out.below dataR_keeps b)
      replace T4 := Lib.hid (below_then T4.out b)
      replace HB := Lib.hid (below_then HB.out b)
      rw [HLK.out] at h
      obtain rfl : ln = rn := by have h1 : (L.map rowQ).length = rn := h.len; have h2 : L.length = ln := HRL.out.len; rw [List.length_map] at h1; omega
      have RR := Lib.hid h
      clear h
      clear b
      clear HLK hL hr HF
      have R1_0 := base_row R1.out
      have c0 := HDC.out _ T4.out
      have hle9 := RR.out.le
      go_wp2_with fail
      clear c0
      clear R1_0
      go_loopw [55] (fun i wr => ∃ k : Nat, k ≤ ln ∧ i = .int .i64 k ∧ Hid (Below w5.heap.size w5 wr)) (fun i _ => ln - (intOf i).toNat)
      case atStart => exact ⟨0, Nat.zero_le _, rfl, Below.refl _ _⟩
      case round =>
      obtain ⟨k, hk, rfl, KB⟩ := hrel
      by_cases hlt : k < ln
      rotate_left
      · obtain rfl : k = ln := by omega
        have z1 : ¬ (k : Int) < (k : Int) := by omega
        have HY := Lib.hid (below_then HB.out KB.out)
        go_wp2_with fail
        refine (alive13_any _).mono ?_
        rintro e wz ⟨rfl, bz⟩
        have HZ := Lib.hid (below_then HY.out bz)
        clear bz
        go_wp2_with fail
        go_ret
        exact ⟨rfl, HZ.out⟩
      obtain ⟨rb, ro, ⟨xa, xn, xc⟩, yr, hra, hrb, hyr, hxr, hxc⟩ := RR.out.at_ hlt
      obtain ⟨lb, lo, ⟨xk, ca, cn, cc, ba, bn, bc⟩, y, hla, hlb, hy, hly, hlc⟩ := HRL.out.line13 hlt
      dsimp only at hxr hlc
      subst hra
      subst hla
      obtain rfl : yr = rowQ y := by rw [List.getElem?_map, hy] at hyr; exact (Option.some.inj hyr).symm
      obtain ⟨s1, s2, s3⟩ := SHL.out k y hy
      have HXN : Hid ((rowQ y).length = xn) := hxr.len
      obtain rfl : tnc = xn := by rw [← HXN.out]; exact s1.symm
      have hx0 : 0 < tnc := by rw [← HXN.out]; omega
      obtain ⟨vb, vo, v0, hva, hvb, hv0, hvc⟩ := hxr.at_ hx0
      rw [hv0] at s3
      obtain rfl := Option.some.inj s3
      subst hva
      have KY := Lib.hid (OK.out k y hy)
      have z1 : (k : Int) < (ln : Int) := by omega
      have z0 : (0 : Int) ≤ (k : Int) := by omega
      have a0 := hxc 0 _ rfl
      rw [Nat.mul_one, Nat.add_zero] at a0
      have HA0 : Hid (∀ W, Below w5.heap.size w5 W → W.cell? ⟨rb, ro + k, none⟩ = some (.slice (some ⟨vb, vo, none⟩) tnc xc)) := fun W hW => (hW.cell (p := ⟨rb, ro + k, none⟩) hrb).trans a0
      have HLC : Hid (∀ W, Below w4.heap.size w4 W → W.cell? ⟨lb, lo + k * 3, none⟩ = some (.int .i64 xk) ∧ W.cell? ⟨lb, lo + k * 3 + 1, none⟩ = some (.slice ca cn cc) ∧ W.cell? ⟨lb, lo + k * 3 + 2, none⟩ = some (.slice ba bn bc)) := hlc
      have b0 := hvc 0 _ rfl
      have b1 := hvc 1 _ rfl
      have b2 := hvc 2 _ rfl
      rw [Nat.zero_mul, Nat.add_zero] at b0 b1 b2
      have HV0 : Hid (∀ W, Below w5.heap.size w5 W → W.cell? ⟨vb, vo, none⟩ = some (.int .i64 1) ∧ W.cell? ⟨vb, vo + 1, none⟩ = some (.int .i64 y.key) ∧ W.cell? ⟨vb, vo + 2, none⟩ = some (.string ⟨#[]⟩)) := fun W hW => ⟨(hW.cell (p := ⟨vb, vo, none⟩) hvb).trans b0, (hW.cell (p := ⟨vb, vo + 1, none⟩) hvb).trans b1, (hW.cell (p := ⟨vb, vo + 2, none⟩) hvb).trans b2⟩
      have HXR := Lib.hid hxr; have HLY := Lib.hid hly; have HY := Lib.hid hy
      obtain rfl : xk = y.key := hly.1
      clear a0 b0 b1 b2 hxc hvc hlc hrb hvb hlb hv0 s1 s2 hyr hxr hly
      have T5 := Lib.hid (below_then T4.out KB.out)
      have a0 := HA0.out _ KB.out
      obtain ⟨l0, l1, l2⟩ := HLC.out _ T5.out
      have c0 := HDC.out _ T5.out
      have q1 := base_row (row_below R1.out KB.out)
      obtain ⟨w6, hw6⟩ : ∃ V, V = wr.alloc (lineBox ⟨y.key, ca, cn, cc, ba, bn, bc⟩) := ⟨_, rfl⟩
      have HW6 := Lib.hid hw6
      have B6 : Hid (Below wr.heap.size wr w6) := by rw [hw6]; exact below_new (Below.refl _ _) _
      have R10 : Hid (w6.heap[wr.heap.size]? = some (lineBox ⟨y.key, ca, cn, cc, ba, bn, bc⟩)) := by rw [hw6]; exact heap_alloc_new _ _
      clear hw6
      go_upto_region 10 with fail
      rw [show wr.alloc (lineBox ⟨y.key, ca, cn, cc, ba, bn, bc⟩) = w6 from HW6.out.symm]
      clear HW6 a0 l0 l1 l2 c0 q1
      generalize wr.heap.size = g10 at R10 ⊢
      have K6 := Lib.hid (below_then KB.out B6.out)
      have T6_ := Lib.hid (below_then T4.out K6.out)
      have u0 := sch_row (row_below R0.out K6.out)
      have u1 := HTC.out _ T6_.out
      obtain ⟨u2, u3, u4⟩ := HV0.out _ K6.out
      obtain ⟨u5, u6, u7⟩ := line_row R10.out
      have k0 : ∀ p : BelowOf w6, p.W.cell? _ = _ := fun p => p.cell u0
      have k1 : ∀ p : BelowOf w6, p.W.cell? _ = _ := fun p => p.cell u1
      have k2 : ∀ p : BelowOf w6, p.W.cell? _ = _ := fun p => p.cell u2
      have k3 : ∀ p : BelowOf w6, p.W.cell? _ = _ := fun p => p.cell u3
      have k4 : ∀ p : BelowOf w6, p.W.cell? _ = _ := fun p => p.cell u4
      have k5 : ∀ p : BelowOf w6, p.W.cell? _ = _ := fun p => p.cell u5
      have e2 : ((tnc : Int) == 0) = false := by simp; omega
      have e3 : (0 : Int) < (tnc : Int) := by omega
      have EQ := fun W => run_equalIn_valF 9998 ⟨1, y.key, ⟨#[]⟩⟩ ⟨1, y.key, ⟨#[]⟩⟩ W
      rw [decide_eq_true rfl] at EQ
      clear u0 u1 u2 u3 u4 u5 u6 u7
      refine wp_region_quiet_below (by kernel_rfl) (by kernel_rfl) ?_
      repeat (first | (with_reducible refine wpQuiet_step (fun K hK => ?_); go_simp; first | (with_reducible refine hK _ ?_; clear hK K) | (apply Exists.intro; with_reducible refine ⟨fun _ => ?_, hK _ ?_⟩; (fail); clear hK K)) | (with_reducible refine wpQuiet_pass (by kernel_rfl) ?_; (try simp only [Act.put, List.setIfInBounds_toArray, List.set_cons_zero, List.set_cons_succ])))
      with_reducible refine wpQuiet_nil ?_
      rintro wq ⟨⟨_, hq⟩, rfl⟩
      have R10q := Lib.hid (row_below R10.out hq)
      have Kq := Lib.hid (below_then K6.out hq)
      clear hq k0 k1 k2 k3 k4 k5 e2 e3 EQ R10 K6 B6 KB T5 T6_ HA0 HLC HV0
      go_wp2_with fail
      have hle5 := HXR.out.le
      go_loopw [95] (fun i wr => ∃ j : Nat, j ≤ tnc ∧ i = .int .i64 j ∧ Hid (Below wq.heap.size wq wr)) (fun i _ => tnc - (intOf i).toNat)
      case atStart => exact ⟨0, Nat.zero_le _, rfl, Below.refl _ _⟩
      case round =>
        obtain ⟨j, hj, rfl, JB⟩ := hrel
        have KJ := Lib.hid (below_then Kq.out JB.out)
        by_cases hjt : j < tnc
        rotate_left
        · obtain rfl : j = tnc := by omega
          have z3 : ¬ (j : Int) < (j : Int) := by omega
          go_wp2_with fail
          exact ⟨⟨k + 1, by omega, by go_num, KJ⟩, by simp [intOf]; omega⟩
        obtain ⟨vb2, vo2, v, hva, hvb, hv, hvc⟩ := HXR.out.at_ hjt
        cases hva
        have hcs : y.cs.length = tnc := by have := HXN.out; rwa [rowQ, List.length_map] at this
        have hcn : y.cs.length = cn := HLY.out.2.1.len
        obtain ⟨cb, co, xq, yq, hca, hcb, hyq, hcr, hcc⟩ := HLY.out.2.1.cell13 (k := j) (show j < cn by omega)
        dsimp only at hca
        subst hca
        obtain rfl : v = showQ yq := by rw [rowQ, List.getElem?_map, hyq] at hv; exact (Option.some.inj hv).symm
        have b0 := (KJ.out.cell (p := ⟨vb, vo + j * 3, none⟩) hvb).trans (hvc 0 _ rfl)
        have b1 := (KJ.out.cell (p := ⟨vb, vo + j * 3 + 1, none⟩) hvb).trans (hvc 1 _ rfl)
        have b2 := (KJ.out.cell (p := ⟨vb, vo + j * 3 + 2, none⟩) hvb).trans (hvc 2 _ rfl)
        have z3 : (j : Int) < (tnc : Int) := by omega
        have z2 : (0 : Int) ≤ (j : Int) := by omega
        have z4 : (j : Int) < (cn : Int) := by omega
        obtain ⟨w7, hw7⟩ : ∃ V, V = wr.alloc (valRow (showQ yq)) := ⟨_, rfl⟩
        have HW7 := Lib.hid hw7
        have B7 : Hid (Below wr.heap.size wr w7) := by rw [hw7]; exact below_new (Below.refl _ _) _
        have R12 : Hid (w7.heap[wr.heap.size]? = some (valRow (showQ yq))) := by rw [hw7]; exact heap_alloc_new _ _
        have J7 := Lib.hid (below_then JB.out B7.out)
        have K7 := Lib.hid (below_then KJ.out B7.out)
        have T7 := Lib.hid (below_then T4.out K7.out)
        have CS : Hid (∀ W, Below w7.heap.size w7 W → Calls Tryz.prog 27 #[xq.val] W fun e w' => e = .returned (showQ yq).agg ∧ Below W.heap.size W w') := fun W hW => show13_any xq yq W (cellR_keeps _ _ _ _ hcr (sees_below (below_then T7.out hW))) (KY.out.parts yq (List.mem_of_getElem? hyq))
        obtain ⟨d0, d1, d2, d3, d4⟩ := hcc _ T7.out
        have HD := Lib.hid (And.intro d0 (And.intro d1 (And.intro d2 (And.intro d3 d4))))
        clear d0 d1 d2 d3 d4 hcc hvc hcr hw7 hcb hvb hv hyq
        go_upto_region 15 with fail
        rw [show wr.alloc (valRow (showQ yq)) = w7 from HW7.out.symm]
        clear HW7 b0 b1 b2
        generalize wr.heap.size = g12 at R12 ⊢
        obtain ⟨d0, d1, d2, d3, d4⟩ := HD.out
        obtain ⟨f0, f1, f2⟩ : w7.cell? ⟨g12, 0, none⟩ = some (.int .i64 (showQ yq).k) ∧ w7.cell? ⟨g12, 1, none⟩ = some (.int .i64 (showQ yq).n) ∧ w7.cell? ⟨g12, 2, none⟩ = some (.string (showQ yq).s) := ⟨cell_row R12.out 0, cell_row R12.out 1, cell_row R12.out 2⟩
        obtain ⟨_, u1, _⟩ := line_row (row_below R10q.out J7.out)
        have k0 : ∀ p : BelowOf w7, p.W.cell? _ = _ := fun p => p.cell d0
        have k1 : ∀ p : BelowOf w7, p.W.cell? _ = _ := fun p => p.cell d1
        have k2 : ∀ p : BelowOf w7, p.W.cell? _ = _ := fun p => p.cell d2
        have k3 : ∀ p : BelowOf w7, p.W.cell? _ = _ := fun p => p.cell d3
        have k4 : ∀ p : BelowOf w7, p.W.cell? _ = _ := fun p => p.cell d4
        have k5 : ∀ p : BelowOf w7, p.W.cell? _ = _ := fun p => p.cell f0
        have k6 : ∀ p : BelowOf w7, p.W.cell? _ = _ := fun p => p.cell f1
        have k7 : ∀ p : BelowOf w7, p.W.cell? _ = _ := fun p => p.cell f2
        have k8 : ∀ p : BelowOf w7, p.W.cell? _ = _ := fun p => p.cell u1
        have EQ := fun W => run_equalIn_valF 9998 (showQ yq) (showQ yq) W
        rw [decide_eq_true rfl] at EQ
        clear d0 d1 d2 d3 d4 f0 f1 f2 u1 HD
        refine wp_region_quiet_below (by kernel_rfl) (by kernel_rfl) ?_
        repeat (first | (with_reducible refine wpQuiet_step (fun K hK => ?_); go_simp; first | (with_reducible refine hK _ ?_; clear hK K) | (apply Exists.intro; with_reducible refine ⟨fun _ => ?_, hK _ ?_⟩; (go_at_call 27; exact Calls.quiet_below (CS.out _ (BelowOf.h _))); clear hK K)) | (with_reducible refine wpQuiet_pass (by kernel_rfl) ?_; (try simp only [Act.put, List.setIfInBounds_toArray, List.set_cons_zero, List.set_cons_succ])))
        with_reducible refine wpQuiet_nil ?_
        rintro wq ⟨⟨_, hq⟩, rfl⟩
        have JQ := Lib.hid (below_then J7.out hq)
        clear hq k0 k1 k2 k3 k4 k5 k6 k7 k8 EQ CS
        go_wp2_with fail
        exact ⟨⟨j + 1, by omega, by go_num, JQ⟩, by simp [intOf]; omega⟩
set_option maxRecDepth 100000 in
theorem contract (H : Type) (enc : TypeId × Value → H) (W : World) (base : Nat) (args : Array Value) (ds gs : List (DataW H)) (before : List MemPlace)
    (hval : ∀ (j : Nat) t v, Tryz.f8.params[j]? = some t → args[j]? = some v → Value.okWide Tryz.prog W .any base t v)
    (hW : DataW.Whole enc Tryz.prog Tryz.f8.params.toList Rows.baseShowsSpec.vars false W args.toList ds gs before)
    (hsz : (DataW.weightsEach Tryz.prog (Tryz.f8.params.toList ++ Rows.baseShowsSpec.plain.varTypes Tryz.prog) (ds ++ gs)).all (· ≤ reachBytes) = true) :
    Calls Tryz.prog 8 args W fun e W' => ∃ v, e = .returned v ∧ Rows.baseShowsSpec.post enc Tryz.prog Tryz.f8 false true false false W args v W' := by
  have hlt : ∀ x ∈ before, x.block < W.heap.size := fun x hx => by simpa using hW.lt x hx
  refine law_step 4 Tryz.laid_ (by kernel_rfl) rfl Tryz.underlying4 rfl hW (fun xs hx => ?_) ?_
  · match xs, hx with
    | [d0, d1, d2], _ => rfl
  · obtain ⟨p, q, hA0, hV, rfl, _, _⟩ := hW
    have hA : DataW.TrodAll enc Tryz.prog W 0 (fun _ => true) true Tryz.f8.params.toList args.toList ds p := hA0
    rw [Tryz.params8] at hA hval hsz
    obtain ⟨v0, vs0, d0, ds0, p0, q0, e0, rfl, rfl, h0, r0⟩ := trodAll_cons hA
    obtain ⟨v1, vs1, d1, ds1, p1, q1, e1, rfl, rfl, h1, r1⟩ := trodAll_cons r0
    obtain ⟨v2, vs2, d2, ds2, p2, q2, e2, rfl, rfl, h2, r2⟩ := trodAll_cons r1
    obtain ⟨rfl, rfl, rfl⟩ := trodAll_nil r2
    subst e2
    subst e1
    obtain rfl : args = #[v0, v1, v2] := by cases args; simp_all
    clear e0 hA0
    have hw0 : ∀ x ∈ d0.weights Tryz.prog 24, x ≤ reachBytes := fun x hx => by simpa using List.all_eq_true.1 hsz _ (DataW.weights_mem_each (j := 0) rfl rfl x hx)
    obtain ⟨A0, n0, c0, l0, rfl, rd0, sm0⟩ := open_schema (hval 0 24 v0 rfl rfl) h0 hw0
    have hw1 : ∀ x ∈ d1.weights Tryz.prog 27, x ≤ reachBytes := fun x hx => by simpa using List.all_eq_true.1 hsz _ (DataW.weights_mem_each (j := 1) rfl rfl x hx)
    obtain ⟨A1, n1, c1, l1, rfl, rd1, sm1⟩ := open_base (hval 1 27 v1 rfl rfl) h1 hw1
    obtain ⟨t, rfl, rfl, rfl, w2⟩ := open_int Tryz.underlying3 (hval 2 3 v2 rfl rfl) h2
    obtain ⟨lo2, hi2⟩ := wf_i64 w2
    exact walk A0 n0 c0 l0 A1 n1 c1 l1 t W rd0 rd1 sm1
set_option maxRecDepth 100000 in
theorem lifted (os : Os) (started : os.Started) (H : Type) (enc : TypeId × Value → H) :
    ReturnsInHanded {} Tryz.checked os 8 .any (Rows.baseShowsSpec.pre6 enc Tryz.prog Tryz.f8 Rows.baseShowsRow.domain false) (Rows.baseShowsSpec.post enc Tryz.prog Tryz.f8 false true false false) := by
  refine returnsInHanded_of_change_sized (C := Tryz.checked) Tryz.own_ started (by kernel_rfl) Tryz.func8
    (ChangeSpec.witness6 (enc := enc) (C := Tryz.checked) false ⟨#[], #[.agg #[.slice none 0 0], .agg #[.slice none 0 0], .int .i64 0], []⟩ 8 (by kernel_rfl) (by kernel_rfl) (by kernel_rfl) (by kernel_rfl)) ?_
  intro W base args ds gs before hval hW _ hsz _
  exact contract H enc W base args ds gs before hval hW hsz
theorem holds : Rows.BaseShowsSaid :=
  OpenClaim.holds_of_wide 8 Tryz.f8 rfl rfl rfl rfl rfl rfl rfl ⟨rfl, rfl, rfl, rfl, rfl⟩ rfl rfl rfl rfl rfl (by kernel_rfl) Tryz.func8 (by kernel_rfl)
    (of_decide_eq_true (by kernel_rfl)) (by unfold Func.isWrapper; first | (rw [if_pos (by decide +kernel)]; kernel_rfl) | (rw [if_neg (by decide +kernel)]; exact ⟨rfl, rfl⟩))
    (fun os started H enc _ => lifted os started H enc)
end Go.Proofs.YtfljhnalmiibeaaGreat.baseShows

