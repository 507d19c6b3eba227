/- Layer 12: which rows fit which kinds: the code and the document. -/
import Derived.Test.YtkpkkkmokgmhfaaExpCode
namespace Go.Proofs.Ytkpkkkmokgmhfaa
set_option maxRecDepth 100000
open Go.RowKit Go.MapKept

theorem fits_next {row : List V3} {ks : List Int} {k : Nat} {r : Bool} (ha : ((List.range k).all fun i => fit1 (row.getD i v0) (ks.getD i 0)) = true) (hr : fit1 (row.getD k v0) (ks.getD k 0) = r) : ((List.range (k + 1)).all fun i => fit1 (row.getD i v0) (ks.getD i 0)) = r := by
  rw [List.range_succ, List.all_append, ha]; simp only [List.all_cons, List.all_nil, Bool.and_true, Bool.true_and]; exact hr
theorem fits_no {row : List V3} {ks : List Int} {k n : Nat} (hk : k < n) (hr : fit1 (row.getD k v0) (ks.getD k 0) = false) : ((List.range n).all fun i => fit1 (row.getD i v0) (ks.getD i 0)) = false := by
  rw [List.all_eq_false]; exact ⟨k, List.mem_range.2 hk, by rw [hr]; simp⟩

set_option maxHeartbeats 12800000 in
theorem fits_any (A B : Option Addr) (n c m d : Nat) (row : List V3) (ks : List Int) (w : World) (h : RdV w A n c row) (hk : Rd w B m d (vals .i64 ks)) : Calls Try.prog 21 #[.slice A n c, .slice B m d] w fun e w' => e = .returned (.bool (fitsB row ks)) ∧ Below w.heap.size w w' := by
  have hln : row.length = n := h.len
  have hlm : ks.length = m := by simpa using hk.len
  have hle := h.le; have hle2 := hk.le
  obtain ⟨r, hr⟩ : ∃ r, Hid (fitsB row ks = r) := ⟨_, rfl⟩
  rw [hr.out]
  have HB0 := Lib.hid (Below.refl w.heap.size w)
  by_cases hnm : n = m
  · subst hnm
    have hr2 : Hid (((List.range n).all fun i => fit1 (row.getD i v0) (ks.getD i 0)) = r) := by show _ = _; rw [← hr.out, fitsB, hln, hlm, decide_eq_true rfl]; rfl
    have HR := Lib.hid h; have HK := Lib.hid hk
    clear h hk hln hlm hr
    go_enter Try.func21, Try.ntmps21
    go_wp2_with fail
    go_loopw [14] (fun i wr => ∃ k : Nat, k ≤ n ∧ i = .int .i64 k ∧ Hid (((List.range k).all fun i => fit1 (row.getD i v0) (ks.getD i 0)) = true) ∧ Hid (Below w.heap.size w wr)) (fun i _ => n - (intOf i).toNat)
    case atStart => exact ⟨0, Nat.zero_le _, rfl, (by show _ = _; simp), HB0⟩
    case round =>
      clear HB0
      obtain ⟨k, hk, rfl, hA, HB⟩ := hrel
      by_cases hlt : k < n
      · obtain ⟨b, o, x, rfl, hb, hx, hld⟩ := HR.out.val hlt
        obtain ⟨b', o', u, rfl, hb', hu, hcu⟩ := HK.out.at_ hlt
        obtain ⟨z, hz, rfl⟩ := vals_at hu
        obtain ⟨d0, d1, d2⟩ := hld wr HB.out
        have e0 : wr.cell? ⟨b', o' + k, none⟩ = some (.int .i64 z) := (HB.out.cell hb').trans hcu
        obtain ⟨t, ht⟩ : ∃ t, Hid (fit1 x z = t) := ⟨_, rfl⟩
        have hft : Hid (fit1 (row.getD k v0) (ks.getD k 0) = t) := by show _ = _; rw [← ht.out, List.getD_eq_getElem?_getD, List.getD_eq_getElem?_getD, hx, hz]; rfl
        obtain ⟨q, hq0⟩ : ∃ q, Hid (mayV x = q) := ⟨_, rfl⟩
        have ht2 : Hid (t = (q && (decide (x.k = 0) || decide (x.k = z)))) := by show _ = _; rw [← ht.out, fit1, hq0.out]
        have y1 : (k : Int) < (n : Int) := by omega
        have y0 : (0 : Int) ≤ (k : Int) := by omega
        have C : Hid (∀ W, Calls Try.prog 37 #[.agg #[.int .i64 x.k, .int .i64 x.n, .string x.s]] W fun r w' => r = .returned (.bool q) ∧ Below W.heap.size W w') := fun W => by rw [← hq0.out]; exact may_any x W
        have hfin : Hid (t = true → ((List.range (k + 1)).all fun i => fit1 (row.getD i v0) (ks.getD i 0)) = true) := by show t = true → _; intro h; exact fits_next hA.out (by rw [hft.out, h])
        have hfno : Hid (t = false → r = false) := by show t = false → _; intro h; rw [← hr2.out]; exact fits_no hlt (by rw [hft.out, h])
        clear hld hb hx hb' hu hcu hz ht hft hq0
        obtain ⟨w2, hw2⟩ : ∃ w2, w2 = wr.alloc (valBox x) := ⟨_, rfl⟩
        have HW2 := Lib.hid hw2
        have B2 : Below wr.heap.size wr w2 := by rw [hw2]; exact below_new (Below.refl _ _) _
        have HB2 := Lib.hid (below_then HB.out B2)
        have RX : Hid (w2.heap[wr.heap.size]? = some (valBox x)) := by rw [hw2]; exact heap_alloc_new _ _
        have E2 := Lib.hid ((B2.cell (World.block_lt_of_cell? _ _ e0)).trans e0)
        clear hw2 B2
        go_upto_region 6 with fail
        rw [show wr.alloc (valBox x) = w2 from HW2.out.symm]
        clear HW2 d0 d1 d2 e0
        generalize wr.heap.size = gx at RX ⊢
        have k0_0 : ∀ p : BelowOf w2, p.W.cell? ⟨gx, 0, none⟩ = some (.int .i64 x.k) := fun p => p.cell (cell_row RX.out 0)
        have k0_1 : ∀ p : BelowOf w2, p.W.cell? ⟨gx, 1, none⟩ = some (.int .i64 x.n) := fun p => p.cell (cell_row RX.out 1)
        have k0_2 : ∀ p : BelowOf w2, p.W.cell? ⟨gx, 2, none⟩ = some (.string x.s) := fun p => p.cell (cell_row RX.out 2)
        have k1 : ∀ p : BelowOf w2, p.W.cell? ⟨b', o' + k, none⟩ = some (.int .i64 z) := fun p => p.cell E2.out
        cases q with
        | false =>
          have hr3 : Hid (r = false) := by show _ = _; exact hfno.out (by rw [ht2.out]; rfl)
          refine wp_region_quiet_below (by kernel_rfl) (by kernel_rfl) ?_
          repeat (first | (with_reducible refine wpQuiet_step (fun K hK => ?_); go_simp; first | (with_reducible refine hK _ ?_; clear hK K) | (apply Exists.intro; with_reducible refine ⟨fun _ => ?_, hK _ ?_⟩; (exact Calls.quiet_below (C.out _)); clear hK K)) | (with_reducible refine wpQuiet_pass (by kernel_rfl) ?_; (try simp only [Act.put, List.setIfInBounds_toArray, List.set_cons_zero, List.set_cons_succ])))
          with_reducible refine wpQuiet_nil ?_
          rintro wq ⟨⟨_, hq⟩, rfl⟩
          have HB3 := Lib.hid (below_then HB2.out hq)
          clear k0_0 k0_1 k0_2 k1 hq
          go_wp2_with fail
          go_ret
          exact ⟨ret_bool hr3.out.symm, HB3.out⟩
        | true =>
          by_cases h0 : x.k = 0
          · have hA2 := Lib.hid (hfin.out (by rw [ht2.out, decide_eq_true h0]; rfl))
            have f0 : (x.k != 0) = false := by simp [bne, h0]
            clear h0
            refine wp_region_quiet_below (by kernel_rfl) (by kernel_rfl) ?_
            repeat (first | (with_reducible refine wpQuiet_step (fun K hK => ?_); go_simp; first | (with_reducible refine hK _ ?_; clear hK K) | (apply Exists.intro; with_reducible refine ⟨fun _ => ?_, hK _ ?_⟩; (exact Calls.quiet_below (C.out _)); clear hK K)) | (with_reducible refine wpQuiet_pass (by kernel_rfl) ?_; (try simp only [Act.put, List.setIfInBounds_toArray, List.set_cons_zero, List.set_cons_succ])))
            with_reducible refine wpQuiet_nil ?_
            rintro wq ⟨⟨_, hq⟩, rfl⟩
            have HB3 := Lib.hid (below_then HB2.out hq)
            clear k0_0 k0_1 k0_2 k1 hq
            go_wp2_with fail
            exact ⟨⟨k + 1, by omega, by go_num, hA2, HB3⟩, by simp [intOf]; omega⟩
          · have f0 : (x.k != 0) = true := by simp [bne, beq_no h0]
            by_cases h1 : x.k = z
            · have hA2 := Lib.hid (hfin.out (by rw [ht2.out, decide_eq_true h1]; simp))
              have f1 : (x.k != z) = false := by simp [bne, h1]
              clear h0 h1
              refine wp_region_quiet_below (by kernel_rfl) (by kernel_rfl) ?_
              repeat (first | (with_reducible refine wpQuiet_step (fun K hK => ?_); go_simp; first | (with_reducible refine hK _ ?_; clear hK K) | (apply Exists.intro; with_reducible refine ⟨fun _ => ?_, hK _ ?_⟩; (exact Calls.quiet_below (C.out _)); clear hK K)) | (with_reducible refine wpQuiet_pass (by kernel_rfl) ?_; (try simp only [Act.put, List.setIfInBounds_toArray, List.set_cons_zero, List.set_cons_succ])))
              with_reducible refine wpQuiet_nil ?_
              rintro wq ⟨⟨_, hq⟩, rfl⟩
              have HB3 := Lib.hid (below_then HB2.out hq)
              clear k0_0 k0_1 k0_2 k1 hq
              go_wp2_with fail
              exact ⟨⟨k + 1, by omega, by go_num, hA2, HB3⟩, by simp [intOf]; omega⟩
            · have hr3 : Hid (r = false) := by show _ = _; exact hfno.out (by rw [ht2.out, decide_eq_false h0, decide_eq_false h1]; rfl)
              have f1 : (x.k != z) = true := by simp [bne, beq_no h1]
              clear h0 h1
              refine wp_region_quiet_below (by kernel_rfl) (by kernel_rfl) ?_
              repeat (first | (with_reducible refine wpQuiet_step (fun K hK => ?_); go_simp; first | (with_reducible refine hK _ ?_; clear hK K) | (apply Exists.intro; with_reducible refine ⟨fun _ => ?_, hK _ ?_⟩; (exact Calls.quiet_below (C.out _)); clear hK K)) | (with_reducible refine wpQuiet_pass (by kernel_rfl) ?_; (try simp only [Act.put, List.setIfInBounds_toArray, List.set_cons_zero, List.set_cons_succ])))
              with_reducible refine wpQuiet_nil ?_
              rintro wq ⟨⟨_, hq⟩, rfl⟩
              have HB3 := Lib.hid (below_then HB2.out hq)
              clear k0_0 k0_1 k0_2 k1 hq
              go_wp2_with fail
              go_ret
              exact ⟨ret_bool hr3.out.symm, HB3.out⟩
      · obtain rfl : k = n := by omega
        have y1 : ¬ (k : Int) < (k : Int) := by omega
        have hr3 : Hid (r = true) := by show _ = _; rw [← hr2.out]; exact hA.out
        go_wp2_with fail
        go_ret
        exact ⟨ret_bool hr3.out.symm, HB.out⟩
  · have hr3 : Hid (r = false) := by show _ = _; rw [← hr.out, fitsB, hln, hlm, decide_eq_false hnm]; rfl
    have q0 : ((n : Int) != (m : Int)) = true := by simp [bne]; omega
    have q1 : ((n : Int) == (m : Int)) = false := beq_no (by omega)
    clear hr hnm
    go_enter Try.func21, Try.ntmps21
    go_wp2_with fail
    go_ret
    exact ⟨ret_bool hr3.out.symm, HB0.out⟩

set_option maxHeartbeats 12800000 in
theorem refFits_any (A B : Option Addr) (n c m d : Nat) (row : List V3) (ks : List Int) (w : World) (h : RdV w A n c row) (hk : Rd w B m d (vals .i64 ks)) : Calls Try.prog 22 #[.slice A n c, .slice B m d] w fun e w' => e = .returned (.bool (fitsB row ks)) ∧ Below w.heap.size w w' := by
  have hln : row.length = n := h.len
  have hlm : ks.length = m := by simpa using hk.len
  have hle := h.le; have hle2 := hk.le
  obtain ⟨r, hr⟩ : ∃ r, Hid (fitsB row ks = r) := ⟨_, rfl⟩
  rw [hr.out]
  have HB0 := Lib.hid (Below.refl w.heap.size w)
  by_cases hnm : n = m
  · subst hnm
    have hr2 : Hid (((List.range n).all fun i => fit1 (row.getD i v0) (ks.getD i 0)) = r) := by show _ = _; rw [← hr.out, fitsB, hln, hlm, decide_eq_true rfl]; rfl
    have HR := Lib.hid h; have HK := Lib.hid hk
    clear h hk hln hlm hr
    go_enter Try.func22, Try.ntmps22
    go_wp2_with fail
    go_loopw [5] (fun i wr => ∃ k : Nat, k ≤ n ∧ i = .int .i64 k ∧ Hid (((List.range k).all fun i => fit1 (row.getD i v0) (ks.getD i 0)) = true) ∧ Hid (Below w.heap.size w wr)) (fun i _ => n - (intOf i).toNat)
    case atStart => exact ⟨0, Nat.zero_le _, rfl, (by show _ = _; simp), HB0⟩
    case round =>
      clear HB0
      obtain ⟨k, hk, rfl, hA, HB⟩ := hrel
      by_cases hlt : k < n
      · obtain ⟨b, o, x, rfl, hb, hx, hld⟩ := HR.out.val hlt
        obtain ⟨b', o', u, rfl, hb', hu, hcu⟩ := HK.out.at_ hlt
        obtain ⟨z, hz, rfl⟩ := vals_at hu
        obtain ⟨d0, d1, d2⟩ := hld wr HB.out
        have e0 : wr.cell? ⟨b', o' + k, none⟩ = some (.int .i64 z) := (HB.out.cell hb').trans hcu
        obtain ⟨t, ht⟩ : ∃ t, Hid (fit1 x z = t) := ⟨_, rfl⟩
        have hft : Hid (fit1 (row.getD k v0) (ks.getD k 0) = t) := by show _ = _; rw [← ht.out, List.getD_eq_getElem?_getD, List.getD_eq_getElem?_getD, hx, hz]; rfl
        obtain ⟨q, hq0⟩ : ∃ q, Hid (mayV x = q) := ⟨_, rfl⟩
        have ht2 : Hid (t = (q && (decide (x.k = 0) || decide (x.k = z)))) := by show _ = _; rw [← ht.out, fit1, hq0.out]
        have y1 : (k : Int) < (n : Int) := by omega
        have y0 : (0 : Int) ≤ (k : Int) := by omega
        have C : Hid (∀ W, Calls Try.prog 10 #[.agg #[.int .i64 x.k, .int .i64 x.n, .string x.s]] W fun r w' => r = .returned (.bool q) ∧ Below W.heap.size W w') := fun W => by rw [← hq0.out]; exact refValue_any x W
        have hfin : Hid (t = true → ((List.range (k + 1)).all fun i => fit1 (row.getD i v0) (ks.getD i 0)) = true) := by show t = true → _; intro h; exact fits_next hA.out (by rw [hft.out, h])
        have hfno : Hid (t = false → r = false) := by show t = false → _; intro h; rw [← hr2.out]; exact fits_no hlt (by rw [hft.out, h])
        clear hld hb hx hb' hu hcu hz ht hft hq0
        go_wp2_with fail
        refine (C.out _).mono ?_
        rintro r2 w2 ⟨rfl, b2⟩
        have HB2 := Lib.hid (below_then HB.out b2)
        have k0_0 : ∀ p : BelowOf w2, p.W.cell? ⟨b, o + k * 3, none⟩ = some (.int .i64 x.k) := fun p => p.cell ((b2.cell (World.block_lt_of_cell? _ _ d0)).trans d0)
        have k0_1 : ∀ p : BelowOf w2, p.W.cell? ⟨b, o + k * 3 + 1, none⟩ = some (.int .i64 x.n) := fun p => p.cell ((b2.cell (World.block_lt_of_cell? _ _ d1)).trans d1)
        have k0_2 : ∀ p : BelowOf w2, p.W.cell? ⟨b, o + k * 3 + 2, none⟩ = some (.string x.s) := fun p => p.cell ((b2.cell (World.block_lt_of_cell? _ _ d2)).trans d2)
        have k1 : ∀ p : BelowOf w2, p.W.cell? ⟨b', o' + k, none⟩ = some (.int .i64 z) := fun p => p.cell ((b2.cell (World.block_lt_of_cell? _ _ e0)).trans e0)
        clear b2 d0 d1 d2 e0 C
        go_upto_region 7 with fail
        cases q with
        | false =>
          have hr3 : Hid (r = false) := by show _ = _; exact hfno.out (by rw [ht2.out]; rfl)
          refine wp_region_quiet_below (by kernel_rfl) (by kernel_rfl) ?_
          repeat (first | (with_reducible refine wpQuiet_step (fun K hK => ?_); go_simp; first | (with_reducible refine hK _ ?_; clear hK K) | (apply Exists.intro; with_reducible refine ⟨fun _ => ?_, hK _ ?_⟩; (fail); clear hK K)) | (with_reducible refine wpQuiet_pass (by kernel_rfl) ?_; (try simp only [Act.put, List.setIfInBounds_toArray, List.set_cons_zero, List.set_cons_succ])))
          with_reducible refine wpQuiet_nil ?_
          rintro wq ⟨⟨_, hq⟩, rfl⟩
          have HB3 := Lib.hid (below_then HB2.out hq)
          clear k0_0 k0_1 k0_2 k1 hq
          go_wp2_with fail
          go_ret
          exact ⟨ret_bool hr3.out.symm, HB3.out⟩
        | true =>
          by_cases h0 : x.k = 0
          · have hA2 := Lib.hid (hfin.out (by rw [ht2.out, decide_eq_true h0]; rfl))
            have f0 : (x.k != 0) = false := by simp [bne, h0]
            clear h0
            refine wp_region_quiet_below (by kernel_rfl) (by kernel_rfl) ?_
            repeat (first | (with_reducible refine wpQuiet_step (fun K hK => ?_); go_simp; first | (with_reducible refine hK _ ?_; clear hK K) | (apply Exists.intro; with_reducible refine ⟨fun _ => ?_, hK _ ?_⟩; (fail); clear hK K)) | (with_reducible refine wpQuiet_pass (by kernel_rfl) ?_; (try simp only [Act.put, List.setIfInBounds_toArray, List.set_cons_zero, List.set_cons_succ])))
            with_reducible refine wpQuiet_nil ?_
            rintro wq ⟨⟨_, hq⟩, rfl⟩
            have HB3 := Lib.hid (below_then HB2.out hq)
            clear k0_0 k0_1 k0_2 k1 hq
            go_wp2_with fail
            exact ⟨⟨k + 1, by omega, by go_num, hA2, HB3⟩, by simp [intOf]; omega⟩
          · have f0 : (x.k != 0) = true := by simp [bne, beq_no h0]
            by_cases h1 : x.k = z
            · have hA2 := Lib.hid (hfin.out (by rw [ht2.out, decide_eq_true h1]; simp))
              have f1 : (x.k != z) = false := by simp [bne, h1]
              clear h0 h1
              refine wp_region_quiet_below (by kernel_rfl) (by kernel_rfl) ?_
              repeat (first | (with_reducible refine wpQuiet_step (fun K hK => ?_); go_simp; first | (with_reducible refine hK _ ?_; clear hK K) | (apply Exists.intro; with_reducible refine ⟨fun _ => ?_, hK _ ?_⟩; (fail); clear hK K)) | (with_reducible refine wpQuiet_pass (by kernel_rfl) ?_; (try simp only [Act.put, List.setIfInBounds_toArray, List.set_cons_zero, List.set_cons_succ])))
              with_reducible refine wpQuiet_nil ?_
              rintro wq ⟨⟨_, hq⟩, rfl⟩
              have HB3 := Lib.hid (below_then HB2.out hq)
              clear k0_0 k0_1 k0_2 k1 hq
              go_wp2_with fail
              exact ⟨⟨k + 1, by omega, by go_num, hA2, HB3⟩, by simp [intOf]; omega⟩
            · have hr3 : Hid (r = false) := by show _ = _; exact hfno.out (by rw [ht2.out, decide_eq_false h0, decide_eq_false h1]; rfl)
              have f1 : (x.k != z) = true := by simp [bne, beq_no h1]
              clear h0 h1
              refine wp_region_quiet_below (by kernel_rfl) (by kernel_rfl) ?_
              repeat (first | (with_reducible refine wpQuiet_step (fun K hK => ?_); go_simp; first | (with_reducible refine hK _ ?_; clear hK K) | (apply Exists.intro; with_reducible refine ⟨fun _ => ?_, hK _ ?_⟩; (fail); clear hK K)) | (with_reducible refine wpQuiet_pass (by kernel_rfl) ?_; (try simp only [Act.put, List.setIfInBounds_toArray, List.set_cons_zero, List.set_cons_succ])))
              with_reducible refine wpQuiet_nil ?_
              rintro wq ⟨⟨_, hq⟩, rfl⟩
              have HB3 := Lib.hid (below_then HB2.out hq)
              clear k0_0 k0_1 k0_2 k1 hq
              go_wp2_with fail
              go_ret
              exact ⟨ret_bool hr3.out.symm, HB3.out⟩
      · obtain rfl : k = n := by omega
        have y1 : ¬ (k : Int) < (k : Int) := by omega
        have hr3 : Hid (r = true) := by show _ = _; rw [← hr2.out]; exact hA.out
        go_wp2_with fail
        go_ret
        exact ⟨ret_bool hr3.out.symm, HB.out⟩
  · have hr3 : Hid (r = false) := by show _ = _; rw [← hr.out, fitsB, hln, hlm, decide_eq_false hnm]; rfl
    have q0 : ((n : Int) != (m : Int)) = true := by simp [bne]; omega
    have q1 : ((n : Int) == (m : Int)) = false := beq_no (by omega)
    clear hr hnm
    go_enter Try.func22, Try.ntmps22
    go_wp2_with fail
    go_ret
    exact ⟨ret_bool hr3.out.symm, HB0.out⟩
end Go.Proofs.Ytkpkkkmokgmhfaa
