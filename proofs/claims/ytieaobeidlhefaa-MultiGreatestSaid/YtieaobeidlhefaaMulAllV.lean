/- Layer 7: a cell's values, each once, rising; are a cell's values right. -/
import Derived.Test.YtieaobeidlhefaaMulCompact
import Derived.Test.YtieaobeidlhefaaMbRight
namespace Go.Proofs.Ytieaobeidlhefaa
set_option maxRecDepth 100000
open Go.RowKit Go.Sort Srt

set_option maxHeartbeats 3200000 in
theorem valuesAll_any (ka : Int) (va : V3) (A : Option Addr) (n c : Nat) (l : List P11) (w : World) (h : RdP w A n c l) (hn : n ≤ 4294967000) :
    Calls Try.prog 33 #[cellV ka va (.slice A n c)] w fun e w' => ∃ A' m c', e = .returned (.slice A' m c') ∧ RdV w' A' m c' (dd (srtV (l.map P11.val))) ∧ Below w.heap.size w w' ∧ ∃ g, A' = some ⟨g, 0, none⟩ ∧ w.heap.size ≤ g := by
  have hle := h.le
  have HLL := Lib.hid h.len
  obtain ⟨L, hLL⟩ : ∃ L, Hid (l.map P11.val = L) := ⟨_, rfl⟩
  rw [hLL.out]
  obtain ⟨i0, hi0, hz0, hz1, hz2⟩ := info_parts Try.infoValue
  obtain ⟨w1, hw1⟩ : ∃ w1, w1 = w.alloc (cellRow ka va (.slice A n c)) := ⟨_, rfl⟩
  have hb1 : Below w.heap.size w w1 := by rw [hw1]; exact below_new (Below.refl _ _) _
  have R0 : Hid (w1.heap[w.heap.size]? = some (cellRow ka va (.slice A n c))) := by rw [hw1]; exact heap_alloc_new _ _
  have HRD := Lib.hid h
  have HB := Lib.hid hb1
  have HW1 := Lib.hid hw1
  have HN := Lib.hid hn
  have HI := Lib.hid hi0; have HZ0 := Lib.hid hz0; have HZ1 := Lib.hid hz1; have HZ2 := Lib.hid hz2
  obtain ⟨c0, c1, c2, c3, c4⟩ := cell_row5 R0.out
  clear h hb1 hw1 hi0 hz0 hz1 hz2
  go_enter Try.func33, Try.ntmps33
  go_upto_region 1 with fail
  rw [show w.alloc (cellRow ka va (.slice A n c)) = w1 from HW1.out.symm]
  clear HW1
  go_wp2_with (at_make; refine wpList_make_own _ rfl _ _ 54 rfl w1.heap.size 23 i0 _ 3 Try.underlying54 HI.out HZ0.out HZ1.out .i64 .i64 _ n rfl rfl rfl ?b2 ?b3 ?b4 ?_; rotate_left 3; intro w2 hown hgrow; have b2 := Below.grown (Below.refl w1.heap.size w1) hgrow (Nat.le_refl _) (fun k hk => by cases hk); have HO := Lib.hid hown; have HG := Lib.hid b2; have R2 := row_below R0.out b2; obtain ⟨d0, d1, d2, d3, d4⟩ := cell_row5 R2; clear R2 hown hgrow b2)
  case b2 => rw [HZ2.out]; have := HN.out; omega
  case b3 => simp only [maxLen]; omega
  case b4 => exact Nat.le_refl _
  clear c0 c1 c2 c3 c4 HI HZ0 HZ1 HZ2
  have HS0 : Hid (∃ g cap, (Value.slice (some ⟨w1.heap.size, 0, none⟩) 0 n) = .slice (some ⟨g, 0, none⟩) 0 cap) := ⟨_, _, rfl⟩
  generalize Value.slice (some ⟨w1.heap.size, 0, none⟩) 0 n = s0 at HO HS0 ⊢
  go_loopw [3, 13] (fun s i wr => ∃ k : Nat, k ≤ n ∧ i = .int .i64 k ∧ Hid (wr.ownsRow w1.heap.size 23 3 s k (((l.take k).map P11.val).flatMap V3.cells)) ∧ Hid (∃ g cap, s = .slice (some ⟨g, 0, none⟩) k cap) ∧ Hid (Below w1.heap.size w1 wr)) (fun _ i _ => n - (intOf i).toNat)
  case atStart => exact ⟨0, Nat.zero_le _, rfl, HO, HS0, HG⟩
  case round =>
    clear HO HS0 HG d0 d1 d2 d3 d4
    obtain ⟨k, hk, rfl, HO, HS, HG⟩ := hrel
    by_cases hlt : k < n
    · obtain ⟨b, o, x, rfl, hb, hx, hld⟩ := HRD.out.part hlt
      obtain ⟨e0, e1, e2, e3, e4, e5, e6, e7, e8, e9, e10⟩ := hld wr (below_then HB.out HG.out)
      obtain ⟨w3, hw3⟩ : ∃ w3, w3 = wr.alloc (partCells x) := ⟨_, rfl⟩
      have HX := Lib.hid hx
      have RP : Hid (w3.heap[wr.heap.size]? = some (partCells x)) := by rw [hw3]; exact heap_alloc_new _ _
      have HO3 : Hid (w3.ownsRow w1.heap.size 23 3 u3 k (((l.take k).map P11.val).flatMap V3.cells)) := by rw [hw3]; exact HO.out.alloc _
      have HG3 : Hid (Below w1.heap.size w1 w3) := by rw [hw3]; exact HG.out.alloc HG.out.size _
      have HW3 := Lib.hid hw3
      have hk60 : Hid (k < 4294967296) := by have := HN.out; show _ < _; omega
      clear hx hld hw3 HO HG HS
      go_upto_region 5 with fail
      rw [show wr.alloc (Obj.cells #[Value.int .i64 x.v.k, .int .i64 x.v.n, .string x.v.s, .int .i64 x.d.d, .int .i64 x.d.s, .int .i64 x.i, .int .i64 x.t, .int .i64 x.a.d, .int .i64 x.a.s, .int .i64 x.j, .bool x.g] 32) = w3 from HW3.out.symm]
      clear HW3 e0 e1 e2 e3 e4 e5 e6 e7 e8 e9 e10
      generalize wr.heap.size = gp at RP ⊢
      obtain ⟨p0, p1, p2, _⟩ := part_row RP.out
      go_wp2_with (at_builtin; refine wpList_pushV rfl (.tmp 17) (.tmp 20) rfl w1.heap.size _ k ((l.take k).map P11.val) x.v _ rfl rfl rfl HO3.out hk60.out HG3.out HG3.out.size ?_; intro v4 w4 hown4 hbel4 hsz4; have HO4 := Lib.hid hown4; have HG4 := Lib.hid hbel4; clear hown4 hbel4 hsz4)
      refine ⟨⟨k + 1, by omega, by go_num, ?_, ?_, HG4⟩, by simp [intOf]; omega⟩
      · show World.ownsRow _ _ _ _ _ _ _
        rw [vals_take HX.out]; exact HO4.out
      · show ∃ g cap, _
        rcases HO4.out.2 with ⟨_, h0⟩ | ⟨g, cap, cur, hv, _⟩
        · omega
        · exact ⟨g, cap, hv⟩
    · obtain rfl : k = n := by omega
      obtain ⟨g, cap, rfl⟩ := HS.out
      have hL : Hid ((l.take k).map P11.val = l.map P11.val) := by show _ = _; rw [List.take_of_length_le (by rw [HLL.out]; exact Nat.le_refl _)]
      rw [hL.out, hLL.out] at HO
      have hlen : Hid (L.length = k) := by show _ = _; rw [← hLL.out, List.length_map]; exact HLL.out
      have C := Lib.hid (sortV_any w1.heap.size g k cap L wr hlen.out HO.out (by have := HN.out; omega))
      obtain ⟨A2, c2, hv2, hrd2⟩ := RdG.own_ v3len (by omega) HO.out
      injection hv2 with f1 f2 f3
      subst f1 f3
      have hcap := Lib.hid hrd2.cap; have hmx := Lib.hid hrd2.2.2.1
      have hgb := Lib.hid (HO.out.lt g rfl).1
      have hBW := Lib.hid (below_then HB.out HG.out)
      have hszw : Hid (w.heap.size ≤ w1.heap.size) := HB.out.size
      clear HO HG HS hrd2 hL HRD R0 HB
      go_wp2_with fail
      refine C.out.mono ?_
      rintro e w5 ⟨rfl, SW⟩
      have hself : SwK V3.cells 3 w5 g 0 (srtV L) w5 := ⟨rfl, rfl, rfl, Nat.le_refl _, SW.lt, fun _ _ _ => rfl, SW.cell, SW.frozen⟩
      have C2 := Lib.hid (compact_any g 0 k cap (srtV L) w5 hself (by rw [srtV_len]; exact hlen.out) hcap.out hmx.out)
      have HB5 := Lib.hid (hBW.out.trans (SW.belowB (B := w.heap.size) (by have := hgb.out; have := hszw.out; omega) hBW.out.size))
      have hgB : Hid (w.heap.size ≤ g) := by have := hgb.out; have := hszw.out; show _ ≤ _; omega
      clear C SW hself
      go_wp2_with fail
      refine C2.out.mono ?_
      rintro e w6 ⟨m, rfl, hrd6, b6⟩
      have HR6 := Lib.hid hrd6
      have HB6 := Lib.hid (HB5.out.trans (b6 _ hgB.out HB5.out.size))
      clear C2 b6 hrd6
      go_wp2_with fail
      go_ret
      exact ⟨_, _, _, rfl, HR6.out, HB6.out, g, rfl, hgB.out⟩

theorem rdv_set3 {w : World} {g b n c : Nat} {l : List V3} (h : RdV w (some ⟨g, 0, none⟩) n c l) (hne : g ≠ b) (x y z : Value) : RdV (((w.setCell ⟨b, 0, none⟩ x).setCell ⟨b, 1, none⟩ y).setCell ⟨b, 2, none⟩ z) (some ⟨g, 0, none⟩) n c l := by
  obtain ⟨hl, h1, h2, hx⟩ := h
  refine ⟨hl, h1, h2, fun h0 => ?_⟩
  obtain ⟨b', o, e, hb, hc⟩ := hx h0
  injection e with e
  injection e with e1 e2
  subst e1 e2
  have ho : ∀ (w : World) (j i : Nat) (x : Value), (w.setCell ⟨b, j, none⟩ x).cell? ⟨g, i, none⟩ = w.cell? ⟨g, i, none⟩ := fun w j i x => World.cell?_setCell_other _ _ _ _ (by intro e; simp only [Addr.mk.injEq] at e; omega)
  refine ⟨g, 0, rfl, by rw [World.size_setCell, World.size_setCell, World.size_setCell]; exact hb, fun j hj i v hv => ?_⟩
  rw [ho, ho, ho]; exact hc j hj i v hv
theorem last_is {l : List V3} (h : l.Pairwise fun a b => ltV a b = true) {s : V3} (hs : s ∈ l) (hm : ∀ v ∈ l, ltV s v = false) : l[l.length - 1]? = some s := by
  obtain ⟨i, hi, e⟩ := List.getElem_of_mem hs
  have hl : l.length - 1 < l.length := by omega
  by_cases hne : i = l.length - 1
  · subst hne; rw [List.getElem?_eq_getElem hi, e]
  · have h1 := List.pairwise_iff_getElem.1 h i (l.length - 1) hi hl (by omega)
    rw [e, hm _ (List.getElem_mem hl)] at h1
    cases h1
theorem next_lt {l : List V3} (h : l.Pairwise fun a b => ltV a b = true) {k : Nat} {x y : V3} (hy : l[k]? = some y) (hx : l[k + 1]? = some x) : ltV y x = true := by
  obtain ⟨h1, e1⟩ := List.getElem?_eq_some_iff.1 hy
  obtain ⟨h2, e2⟩ := List.getElem?_eq_some_iff.1 hx
  have := List.pairwise_iff_getElem.1 h k (k + 1) h1 h2 (by omega)
  rwa [e1, e2] at this

set_option maxHeartbeats 1600000 in
theorem lawRight_any (ka : Int) (va : V3) (A : Option Addr) (n c : Nat) (l : List P11) (w : World) (h : RdP w A n c l) :
    Calls Try.prog 31 #[cellV ka va (.slice A n c)] w fun e w' => e = .returned (.bool (decide (n ≤ 60) && l.all fun p => p.v.right)) ∧ Below w.heap.size w w' := by
  have hle := h.le
  obtain ⟨w1, hw1⟩ : ∃ w1, w1 = w.alloc (cellRow ka va (.slice A n c)) := ⟨_, rfl⟩
  have hb1 : Below w.heap.size w w1 := by rw [hw1]; exact below_new (Below.refl _ _) _
  have R0 : Hid (w1.heap[w.heap.size]? = some (cellRow ka va (.slice A n c))) := by rw [hw1]; exact heap_alloc_new _ _
  have HRD := Lib.hid h; have HL := Lib.hid h.len
  have HB := Lib.hid hb1
  have HW1 := Lib.hid hw1
  obtain ⟨F, hF⟩ : ∃ F, Hid ((decide (n ≤ 60) && l.all fun p => p.v.right) = F) := ⟨_, rfl⟩
  rw [hF.out]
  obtain ⟨f, hf⟩ : ∃ f, Hid (decide (n ≤ 60) = f) := ⟨_, rfl⟩
  have FW : Hid (Calls Try.prog 15 #[cellV ka va (.slice A n c)] w1 fun e w' => e = .returned (.bool f) ∧ Below w1.heap.size w1 w') := by rw [← hf.out]; exact refFew_any ka va A n c w1
  obtain ⟨c0, c1, c2, c3, c4⟩ := cell_row5 R0.out
  clear h hb1 hw1
  go_enter Try.func31, Try.ntmps31
  go_upto_region 1 with fail
  rw [show w.alloc (cellRow ka va (.slice A n c)) = w1 from HW1.out.symm]
  clear HW1
  go_wp2_with fail
  refine FW.out.mono ?_
  rintro e w2 ⟨rfl, b2⟩
  replace R0 := Lib.hid (row_below R0.out b2)
  replace HB := Lib.hid (below_then HB.out b2)
  obtain ⟨c0, c1, c2, c3, c4⟩ := cell_row5 R0.out
  clear FW b2
  cases f with
  | false =>
    have hN : Hid (F = false) := by show _ = _; rw [← hF.out, hf.out]; rfl
    go_wp2_with fail
    go_ret
    exact ⟨ret_bool hN.out.symm, HB.out⟩
  | true =>
    have hN : Hid (F = l.all fun p => p.v.right) := by show _ = _; rw [← hF.out, hf.out]; rfl
    clear hF hf
    go_wp2_with fail
    go_loopw [11] (fun i wr => ∃ k : Nat, k ≤ n ∧ i = .int .i64 k ∧ Hid (F = (l.drop k).all fun p => p.v.right) ∧ Hid (Below w.heap.size w wr)) (fun i _ => n - (intOf i).toNat)
    case atStart => exact ⟨0, Nat.zero_le _, rfl, by show _ = _; rw [hN.out]; simp, HB⟩
    case round =>
      clear c0 c1 c2 c3 c4 HB
      obtain ⟨k, hk, rfl, hA, HB⟩ := hrel
      by_cases hlt : k < n
      · obtain ⟨b, o, x, rfl, hb, hx, hld⟩ := HRD.out.part hlt
        obtain ⟨d0, d1, d2, d3, d4, d5, d6, d7, d8, d9, d10⟩ := hld wr HB.out
        obtain ⟨w3, hw3⟩ : ∃ w3, w3 = wr.alloc (partCells x) := ⟨_, rfl⟩
        have RP : Hid (w3.heap[wr.heap.size]? = some (partCells x)) := by rw [hw3]; exact heap_alloc_new _ _
        have HB3 : Hid (Below w.heap.size w w3) := by rw [hw3]; exact below_new HB.out _
        have HW3 := Lib.hid hw3
        obtain ⟨r, hr⟩ : ∃ r, Hid (x.v.right = r) := ⟨_, rfl⟩
        have C : Hid (∀ W : World, Calls Try.prog 24 #[.agg #[.int .i64 x.v.k, .int .i64 x.v.n, .string x.v.s]] W fun e w' => e = .returned (.bool r) ∧ Below W.heap.size W w') := by intro W; rw [← hr.out]; exact refRight_val x.v W
        have hs : Hid (F = (r && (l.drop (k + 1)).all fun p => p.v.right)) := by
          show _ = _
          obtain ⟨h1, h2⟩ := List.getElem?_eq_some_iff.1 hx
          rw [hA.out, List.drop_eq_getElem_cons h1, h2, List.all_cons, hr.out]
        clear hx hld hw3 HB hA hr
        go_upto_region 6 with fail
        rw [show wr.alloc (Obj.cells #[Value.int .i64 x.v.k, .int .i64 x.v.n, .string x.v.s, .int .i64 x.d.d, .int .i64 x.d.s, .int .i64 x.i, .int .i64 x.t, .int .i64 x.a.d, .int .i64 x.a.s, .int .i64 x.j, .bool x.g] 32) = w3 from HW3.out.symm]
        clear HW3 d0 d1 d2 d3 d4 d5 d6 d7 d8 d9 d10
        generalize wr.heap.size = gp at RP ⊢
        obtain ⟨p0, p1, p2, _⟩ := part_row RP.out
        go_wp2_with fail
        refine (C.out _).mono ?_
        rintro e w4 ⟨rfl, b4⟩
        have HB4 := Lib.hid (below_then HB3.out b4)
        clear C b4
        cases r with
        | true =>
          have hs2 : Hid (F = (l.drop (k + 1)).all fun p => p.v.right) := by show _ = _; rw [hs.out]; rfl
          go_wp2_with fail
          exact ⟨⟨k + 1, by omega, by go_num, hs2, HB4⟩, by simp [intOf]; omega⟩
        | false =>
          have hs2 : Hid (F = false) := by show _ = _; rw [hs.out]; rfl
          go_wp2_with fail
          go_ret
          exact ⟨ret_bool hs2.out.symm, HB4.out⟩
      · have hs2 : Hid (F = true) := by show _ = _; rw [hA.out, List.drop_of_length_le (by rw [HL.out]; omega)]; rfl
        go_wp2_with fail
        go_ret
        exact ⟨ret_bool hs2.out.symm, HB.out⟩

end Go.Proofs.Ytieaobeidlhefaa
