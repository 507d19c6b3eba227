/- Layer 5: Clone, Trim, Set: the code. -/
import Derived.Test.YtefbgbciaiedeaaVecMake
import Derived.Lib.SliceRun
namespace Go.Proofs.Ytefbgbciaiedeaa
set_option maxRecDepth 100000
open Go.RowKit

set_option maxHeartbeats 800000 in
theorem clone_any (A : Option Addr) (n c : Nat) (l : List Int) (w : World) (h : Rd w A n c (vals .i64 l)) (hn : n ≤ 4294967296) :
    Calls Try.prog 44 #[.slice A n c] w fun e w' => ∃ A' c', e = .returned (.slice A' n c') ∧ Rd w' A' n c' (vals .i64 l) ∧ Below w.heap.size w w' := by
  cases A with
  | none =>
    have h0 : n = 0 := by
      rcases Nat.eq_zero_or_pos n with e | e
      · exact e
      · obtain ⟨b, o, hh, _⟩ := h.hsize e; cases hh
    subst h0
    have hl : Hid (vals .i64 l = []) := h.eq_nil
    rw [hl.out]
    have EN := fun W : World => Lib.run_eql_slice_nil (P := Try.prog) W 23 3 none 0 c 0 0 Try.underlying23
    clear h
    go_enter Try.func44, Try.ntmps44
    go_wp2
    go_ret
    exact ⟨_, _, rfl, Rd.nil_ _, Below.refl _ _⟩
  | some ad =>
    have HH : Hid (Rd (w.alloc (Obj.cells #[] 3)) (some ad) n c (vals .i64 l)) := h.alloc _
    have HB := below_new (Below.refl w.heap.size w) (Obj.cells #[] 3)
    have EN := fun W : World => Lib.run_eql_slice_nil (P := Try.prog) W 23 3 (some ad) n c 0 0 Try.underlying23
    clear h
    go_enter Try.func44, Try.ntmps44
    go_wp2_with (at_builtin; refine wpList_full rfl (.tmp 5) (.tmp 6) 23 rfl 3 Try.underlying23 (.int .i64 0) 8 Try.infoInt rfl (by decide) (some ⟨w.heap.size, 0, none⟩) 0 [] (some ad) n c (vals .i64 l) (by rfl) (by rfl) (Rd.empty_ _ _ (by simp [maxLen])) HH.out (by omega) ?_; intro A' c' w' hr hb)
    have hb2 := below_then HB hb
    have hr2 : Hid (Rd w' A' n c' (vals .i64 l)) := by
      have := hr
      rw [Nat.zero_add, List.nil_append] at this
      exact this
    clear hr hb
    go_wp2
    go_ret
    exact ⟨_, _, rfl, hr2.out, hb2⟩

set_option maxHeartbeats 800000 in
theorem vecTrim_any (A : Option Addr) (n c : Nat) (l : List Int) (w : World) (h : Rd w A n c (vals .i64 l)) (hn : n ≤ 4294967296) :
    Calls Try.prog 28 #[.slice A n c] w fun e w' => ∃ A' n' c', e = .returned (.slice A' n' c') ∧ Rd w' A' n' c' (vals .i64 (trimV l)) ∧ Below w.heap.size w w' := by
  have PE := Lib.hid (vecEnd_any A n c l w h)
  have hl : l.length = n := by simpa using h.len
  have HT := Lib.hid (rd_trim h)
  have hel : Hid (endV l ≤ n) := by show _ ≤ _; rw [← hl]; exact endV_le l
  have hcap := h.cap
  obtain ⟨z, hz⟩ : ∃ z, Hid (endV l = z) := ⟨_, rfl⟩
  rw [hz.out] at PE HT hel
  obtain ⟨t, ht⟩ : ∃ t, Hid (trimV l = t) := ⟨_, rfl⟩
  rw [ht.out] at HT
  rw [ht.out]
  have SL := fun W => run_uptoV (A := A) (n := n) (c := c) (m := z) (Nat.le_trans hel.out hcap) W
  have PC := Lib.hid (clone_any A z c t w HT.out (by have := hel.out; omega))
  clear h hl hz ht
  go_enter Try.func28, Try.ntmps28
  go_wp2_with fail
  refine PE.out.mono ?_
  rintro e w1 ⟨rfl, rfl⟩
  go_wp2_with fail
  refine PC.out.mono ?_
  rintro e w2 ⟨A', c', rfl, h1, h2⟩
  go_wp2
  go_ret
  exact ⟨_, _, _, rfl, h1, h2⟩

/-- a row that a copy was laid over, and one place -/
theorem splice_row (l : List Int) (N : Nat) (hN : l.length ≤ N) : splice (List.replicate N (0 : Int)) 0 l = rowV N (fun k => ofN l k) := by
  apply List.ext_getElem?
  intro k
  simp only [splice, List.take_zero, List.nil_append, Nat.zero_add]
  by_cases hk : k < l.length
  · rw [List.getElem?_append_left hk, rowV, List.getElem?_map, List.getElem?_range (by omega), List.getElem?_eq_getElem hk]
    simp [ofN_lt hk]
  · rw [List.getElem?_append_right (by omega), List.getElem?_drop, rowV, List.getElem?_map]
    by_cases hk2 : k < N
    · rw [List.getElem?_replicate, if_pos (by omega), List.getElem?_range hk2]
      simp [ofN_out (show l.length ≤ k by omega)]
    · rw [List.getElem?_replicate, if_neg (by omega), List.getElem?_eq_none (by simp; omega)]
      rfl
theorem vals_splice (a b : List Int) : splice (vals .i64 a) 0 (vals .i64 b) = vals .i64 (splice a 0 b) := by
  simp [splice, vals]
theorem row_put (l : List Int) (N k : Nat) (x : Int) (hk : k < N) : (rowV N (fun j => ofN l j)).set k x = rowV N (fun j => if (j : Int) + 1 = (k : Int) + 1 then x else ofN l j) := by
  apply List.ext_getElem?
  intro j
  rw [List.getElem?_set]
  simp only [rowV, List.getElem?_map, List.length_map, List.length_range]
  by_cases hj : j < N
  · rw [List.getElem?_range hj]
    by_cases e : k = j
    · subst e; simp [hk]
    · simp [e]; omega
  · rw [List.getElem?_eq_none (by simp; omega)]
    by_cases e : k = j
    · omega
    · simp [e]

set_option maxHeartbeats 1600000 in
theorem vecSet_any (A : Option Addr) (n c : Nat) (l : List Int) (d x : Int) (w : World) (h : Rd w A n c (vals .i64 l)) (hn : n ≤ 4294967296) :
    Calls Try.prog 30 #[.slice A n c, .int .i64 d, .int .i64 x] w fun e w' => ∃ A' n' c', e = .returned (.slice A' n' c') ∧ Rd w' A' n' c' (vals .i64 (setV l d x)) ∧ Below w.heap.size w w' := by
  have hl : l.length = n := by simpa using h.len
  by_cases hout : d < 1 ∨ 64 < d
  · have PT := Lib.hid (vecTrim_any A n c l w h hn)
    have HS : Hid (setV l d x = trimV l) := by show _ = _; rw [setV, if_pos hout]
    rw [HS.out]
    clear HS h hl
    rcases Decidable.em (d < 1) with h1 | h1
    · go_enter Try.func30, Try.ntmps30
      go_wp2_with fail
      refine PT.out.mono ?_
      rintro e w1 ⟨A', n', c', rfl, h1, h2⟩
      go_wp2
      go_ret
      exact ⟨_, _, _, rfl, h1, h2⟩
    · have h2 : 64 < d := by omega
      go_enter Try.func30, Try.ntmps30
      go_wp2_with fail
      refine PT.out.mono ?_
      rintro e w1 ⟨A', n', c', rfl, h1, h2⟩
      go_wp2
      go_ret
      exact ⟨_, _, _, rfl, h1, h2⟩
  · have h1 : ¬ d < 1 := by omega
    have h2 : ¬ 64 < d := by omega
    obtain ⟨D, rfl⟩ : ∃ D : Nat, d = (D : Int) := ⟨d.toNat, by omega⟩
    obtain ⟨N, hN⟩ : ∃ N, Hid (max n D = N) := ⟨_, rfl⟩
    obtain ⟨q, hq⟩ : ∃ q : Nat → Int, Hid (q = fun k : Nat => if (k : Int) + 1 = (D : Int) then x else ofN l k) := ⟨_, rfl⟩
    have HS : Hid (setV l D x = trimV (rowV N q)) := by show _ = _; rw [setV, if_neg hout, hl, Int.toNat_natCast, hN.out, hq.out]
    rw [HS.out]
    have HPUT : Hid ((splice (List.replicate N (0 : Int)) 0 l).set (D - 1) x = rowV N q) := by
      show _ = _
      have := hN.out
      rw [splice_row l N (by omega), row_put l N (D - 1) x (by omega), hq.out]
      congr 1
      funext k
      rw [show ((D - 1 : Nat) : Int) + 1 = (D : Int) by omega]
    have HSL : Hid ((splice (List.replicate N (0 : Int)) 0 l).length = N) := by
      show _ = _
      have := hN.out
      rw [splice_row l N (by omega), rowV_len]
    obtain ⟨Z, hZ, MK⟩ := made_vecs
    have MN := MK.out n (by omega)
    have MM := MK.out D (by omega)
    have HL := Lib.hid hl
    have HH := Lib.hid h
    clear hout h hl hq HS
    rcases Decidable.em (n < D) with hnd | hnd
    · have e0 : N = D := by have := hN.out; omega
      subst e0
      go_enter Try.func30, Try.ntmps30
      have hDN : N ≤ N := by have := hN.out; omega
      have hnN : n ≤ N := by have := hN.out; omega
      have hD1 : 1 ≤ N := by omega
      have HG : Hid ((w.alloc (Obj.cells (Z N) 3)).heap[w.heap.size]? = some (.cells (vals .i64 (List.replicate N 0)).toArray 3 (0, 0))) := by
        show _ = _
        rw [hZ.out]
        exact heap_alloc_new w _
      have HB := below_new (Below.refl w.heap.size w) (Obj.cells (Z N) 3)
      have HLN : Hid ((vals .i64 l).length = Nat.min n N) := by
        show _ = _
        rw [vals, List.length_map, HL.out]
        show _ = min n N
        omega
      have HPOS : Hid (0 < (vals .i64 l).length → ∃ ad, A = some ad ∧ ∀ j v, (vals .i64 l)[j]? = some v → (w.alloc (Obj.cells (Z N) 3)).cell? (ad.add j) = some v) := by
        intro h0
        obtain ⟨b, o, hA, _⟩ := HH.out.hsize (by simpa [HL.out] using h0)
        have hr := HH.out.alloc (Obj.cells (Z N) 3)
        rw [hA] at hr
        exact ⟨_, hA, fun j v hj => rd_cells hr j v hj⟩
      have HFIT : Hid (0 + (vals .i64 l).length ≤ (vals .i64 (List.replicate N 0)).length) := by
        show _ ≤ _
        rw [vals, vals, List.length_map, List.length_map, List.length_replicate, HL.out]
        omega
      have MV := MK.out N (by omega)
      clear MN MM MK
      go_wp2_with (refine wpList_copy_splice rfl (.tmp 21) (.tmp 22) 23 23 rfl 3 Try.underlying23 (by kernel_rfl) (some ⟨w.heap.size, 0, none⟩) A N N n c (by rfl) (by rfl) w.heap.size 0 (vals .i64 (List.replicate N 0)) 3 HG.out (vals .i64 l) HLN.out (fun h0 => ⟨rfl, HPOS.out h0⟩) HFIT.out (vals_one _ _) w.heap.size w HB (Nat.le_refl _) ?_; intro w2 HG2 hB2; refine Hid.out ?_)
      refine Lib.hid ?_
      have HW : Hid (RowI w2 w.heap.size (splice (List.replicate N 0) 0 l)) := by
        have := HG2.out
        rw [vals_splice] at this
        exact this
      clear HG HPOS HFIT HB HG2 MV
      obtain ⟨z, hz⟩ : ∃ z, Hid (splice (List.replicate N (0 : Int)) 0 l = z) := ⟨_, rfl⟩
      rw [hz.out] at HW HPUT HSL
      have HS : Hid (RowI (w2.setCell ⟨w.heap.size, N - 1, none⟩ (.int .i64 x)) w.heap.size (rowV N q)) := by
        have := rowI_set HW.out (N - 1) x
        rw [HPUT.out] at this
        exact this
      have hsB : Below w.heap.size w (w2.setCell ⟨w.heap.size, N - 1, none⟩ (.int .i64 x)) := hB2.setCell (Nat.le_refl _) _
      obtain ⟨old, hold⟩ := rowI_cell HW.out (k := N - 1) (by rw [HSL.out]; omega)
      have hfr := frozen_row HW.out (N - 1)
      have HR : Hid (Rd (w2.setCell ⟨w.heap.size, N - 1, none⟩ (.int .i64 x)) (some ⟨w.heap.size, 0, none⟩) N N (vals .i64 (rowV N q))) := rowI_rd HS.out (rowV_len _ _) (by have := hN.out; omega)
      have q1 : IntKind.i64.wrap ((N : Int) - 1) = (N : Int) - 1 := wrap_is (by omega)
      have q2 : (0 : Int) ≤ (N : Int) - 1 := by omega
      have q3 : (N : Int) - 1 < (N : Int) := by omega
      have q4 : ((N : Int) - 1).toNat = N - 1 := by omega
      have q5 : (1 : Int) ≤ (N : Int) := by omega
      have q6 : (N : Int) ≤ (N : Int) := by omega
      have PE := Lib.hid (vecEnd_any (some ⟨w.heap.size, 0, none⟩) N N (rowV N q) _ HR.out)
      have HT := Lib.hid (rd_trim HR.out)
      have hel : Hid (endV (rowV N q) ≤ N) := by have := endV_le (rowV N q); rw [rowV_len] at this; exact this
      obtain ⟨u, hu⟩ : ∃ u, Hid (endV (rowV N q) = u) := ⟨_, rfl⟩
      rw [hu.out] at PE HT hel
      have SL := fun W => run_uptoV (A := some ⟨w.heap.size, 0, none⟩) (n := N) (c := N) (m := u) hel.out W
      clear HW HPUT HSL HH HL HS hz HR
      go_wp2_with fail
      refine PE.out.mono ?_
      rintro e w3 ⟨rfl, rfl⟩
      go_wp2
      go_ret
      exact ⟨_, _, _, rfl, HT.out, hsB⟩
    · have e0 : N = n := by have := hN.out; omega
      subst e0
      go_enter Try.func30, Try.ntmps30
      have hDN : D ≤ N := by have := hN.out; omega
      have hnN : N ≤ N := by have := hN.out; omega
      have hD1 : 1 ≤ D := by omega
      have HG : Hid ((w.alloc (Obj.cells (Z N) 3)).heap[w.heap.size]? = some (.cells (vals .i64 (List.replicate N 0)).toArray 3 (0, 0))) := by
        show _ = _
        rw [hZ.out]
        exact heap_alloc_new w _
      have HB := below_new (Below.refl w.heap.size w) (Obj.cells (Z N) 3)
      have HLN : Hid ((vals .i64 l).length = Nat.min N N) := by
        show _ = _
        rw [vals, List.length_map, HL.out]
        show _ = min N N
        omega
      have HPOS : Hid (0 < (vals .i64 l).length → ∃ ad, A = some ad ∧ ∀ j v, (vals .i64 l)[j]? = some v → (w.alloc (Obj.cells (Z N) 3)).cell? (ad.add j) = some v) := by
        intro h0
        obtain ⟨b, o, hA, _⟩ := HH.out.hsize (by simpa [HL.out] using h0)
        have hr := HH.out.alloc (Obj.cells (Z N) 3)
        rw [hA] at hr
        exact ⟨_, hA, fun j v hj => rd_cells hr j v hj⟩
      have HFIT : Hid (0 + (vals .i64 l).length ≤ (vals .i64 (List.replicate N 0)).length) := by
        show _ ≤ _
        rw [vals, vals, List.length_map, List.length_map, List.length_replicate, HL.out]
        omega
      have MV := MK.out N (by omega)
      clear MN MM MK
      go_wp2_with (refine wpList_copy_splice rfl (.tmp 21) (.tmp 22) 23 23 rfl 3 Try.underlying23 (by kernel_rfl) (some ⟨w.heap.size, 0, none⟩) A N N N c (by rfl) (by rfl) w.heap.size 0 (vals .i64 (List.replicate N 0)) 3 HG.out (vals .i64 l) HLN.out (fun h0 => ⟨rfl, HPOS.out h0⟩) HFIT.out (vals_one _ _) w.heap.size w HB (Nat.le_refl _) ?_; intro w2 HG2 hB2; refine Hid.out ?_)
      refine Lib.hid ?_
      have HW : Hid (RowI w2 w.heap.size (splice (List.replicate N 0) 0 l)) := by
        have := HG2.out
        rw [vals_splice] at this
        exact this
      clear HG HPOS HFIT HB HG2 MV
      obtain ⟨z, hz⟩ : ∃ z, Hid (splice (List.replicate N (0 : Int)) 0 l = z) := ⟨_, rfl⟩
      rw [hz.out] at HW HPUT HSL
      have HS : Hid (RowI (w2.setCell ⟨w.heap.size, D - 1, none⟩ (.int .i64 x)) w.heap.size (rowV N q)) := by
        have := rowI_set HW.out (D - 1) x
        rw [HPUT.out] at this
        exact this
      have hsB : Below w.heap.size w (w2.setCell ⟨w.heap.size, D - 1, none⟩ (.int .i64 x)) := hB2.setCell (Nat.le_refl _) _
      obtain ⟨old, hold⟩ := rowI_cell HW.out (k := D - 1) (by rw [HSL.out]; omega)
      have hfr := frozen_row HW.out (D - 1)
      have HR : Hid (Rd (w2.setCell ⟨w.heap.size, D - 1, none⟩ (.int .i64 x)) (some ⟨w.heap.size, 0, none⟩) N N (vals .i64 (rowV N q))) := rowI_rd HS.out (rowV_len _ _) (by have := hN.out; omega)
      have q1 : IntKind.i64.wrap ((D : Int) - 1) = (D : Int) - 1 := wrap_is (by omega)
      have q2 : (0 : Int) ≤ (D : Int) - 1 := by omega
      have q3 : (D : Int) - 1 < (N : Int) := by omega
      have q4 : ((D : Int) - 1).toNat = D - 1 := by omega
      have q5 : (1 : Int) ≤ (D : Int) := by omega
      have q6 : (D : Int) ≤ (N : Int) := by omega
      have PE := Lib.hid (vecEnd_any (some ⟨w.heap.size, 0, none⟩) N N (rowV N q) _ HR.out)
      have HT := Lib.hid (rd_trim HR.out)
      have hel : Hid (endV (rowV N q) ≤ N) := by have := endV_le (rowV N q); rw [rowV_len] at this; exact this
      obtain ⟨u, hu⟩ : ∃ u, Hid (endV (rowV N q) = u) := ⟨_, rfl⟩
      rw [hu.out] at PE HT hel
      have SL := fun W => run_uptoV (A := some ⟨w.heap.size, 0, none⟩) (n := N) (c := N) (m := u) hel.out W
      clear HW HPUT HSL HH HL HS hz HR
      go_wp2_with fail
      refine PE.out.mono ?_
      rintro e w3 ⟨rfl, rfl⟩
      go_wp2
      go_ret
      exact ⟨_, _, _, rfl, HT.out, hsB⟩
end Go.Proofs.Ytefbgbciaiedeaa
