/- Layer 8: a counter of numbers, if it may be; why the first one of counters may not be; the first counter. -/
import Derived.Test.YtieaobeidlhefaaCntCell
namespace Go.Proofs.Ytieaobeidlhefaa
set_option maxRecDepth 100000
open Go.RowKit

/-- a cell that lies in a slice -/
structure C5 where
  k : Int
  v : V3
  A : Option Addr
  n : Nat
  c : Nat
def C5.cells (x : C5) : List Value := [.int .i64 x.k, .int .i64 x.v.k, .int .i64 x.v.n, .string x.v.s, .slice x.A x.n x.c]
abbrev C5.val (x : C5) : Value := cellV x.k x.v (.slice x.A x.n x.c)
theorem c5len (x : C5) : x.cells.length = 5 := rfl
abbrev RdC5 (w : World) (A : Option Addr) (n c : Nat) (l : List C5) : Prop := RdG C5.cells 5 w A n c l
abbrev C5.right (x : C5) : Int := rightN x.k x.v x.n
def firstN : List C5 → Int
  | [] => 0
  | x :: l => if x.right = 0 then firstN l else x.right
theorem cdrop_at {α : Type} {l : List α} {k : Nat} {x : α} (h : l[k]? = some x) : l.drop k = x :: l.drop (k + 1) := by
  obtain ⟨h1, h2⟩ := List.getElem?_eq_some_iff.1 h
  rw [List.drop_eq_getElem_cons h1, h2]
theorem firstN_ok {l : List C5} {k : Nat} {x : C5} (hx : l[k]? = some x) (h : x.right = 0) : firstN (l.drop k) = firstN (l.drop (k + 1)) := by
  rw [cdrop_at hx, firstN, if_pos h]
theorem firstN_no {l : List C5} {k : Nat} {x : C5} (hx : l[k]? = some x) (h : ¬ x.right = 0) : firstN (l.drop k) = x.right := by
  rw [cdrop_at hx, firstN, if_neg h]

set_option maxHeartbeats 1600000 in
theorem cntFirst_any (A : Option Addr) (n c : Nat) (l : List C5) (w : World) (h : RdC5 w A n c l) :
    Calls Try.prog 74 #[.slice A n c] w fun e w' => e = .returned (.int .i64 (firstN l)) ∧ Below w.heap.size w w' := by
  have hle := h.le
  have HL := Lib.hid h.len
  have HRD := Lib.hid h
  obtain ⟨F, hF⟩ : ∃ F, Hid (F = firstN l) := ⟨_, rfl⟩
  rw [← hF.out]
  clear h
  go_enter Try.func74, Try.ntmps74
  go_wp2_with fail
  go_loopw [8] (fun v wr => ∃ (k : Nat), k ≤ n ∧ v = .int .i64 k ∧ Hid (F = firstN (l.drop k)) ∧ Hid (Below w.heap.size w wr)) (fun v _ => n - (intOf v).toNat)
  case atStart => exact ⟨0, Nat.zero_le _, rfl, by show _ = _; rw [hF.out]; simp, Below.refl _ _⟩
  case round =>
    obtain ⟨k, hk, rfl, hs, KB⟩ := hrel
    by_cases hlt : k < n
    · obtain ⟨b, o, x, rfl, hb, hx, hc⟩ := HRD.out.at_ hlt
      have hcc : ∀ i v, (C5.cells x)[i]? = some v → wr.cell? ⟨b, o + k * 5 + i, none⟩ = some v := fun i v hv => (KB.out.cell (p := ⟨b, o + k * 5 + i, none⟩) hb).trans (hc i v hv)
      have d0 : wr.cell? ⟨b, o + k * 5, none⟩ = _ := hcc 0 _ rfl
      have d1 := hcc 1 _ rfl
      have d2 := hcc 2 _ rfl
      have d3 := hcc 3 _ rfl
      have d4 := hcc 4 _ rfl
      obtain ⟨w2, hw2⟩ : ∃ w2, w2 = wr.alloc (cellRow x.k x.v (.slice x.A x.n x.c)) := ⟨_, rfl⟩
      have HW2 := Lib.hid hw2
      have r2 : w2.heap[wr.heap.size]? = some (cellRow x.k x.v (.slice x.A x.n x.c)) := by rw [hw2]; exact heap_alloc_new _ _
      have HB2 : Hid (Below w.heap.size w w2) := by rw [hw2]; exact below_new KB.out _
      obtain ⟨c0, c1, c2, c3, c4⟩ := cell_row5 r2
      obtain ⟨r, hr, C⟩ : ∃ r, Hid (x.right = r) ∧ Hid (Calls Try.prog 38 #[cellV x.k x.v (.slice x.A x.n x.c)] w2 fun e w' => e = .returned (.int .i64 r) ∧ Below w2.heap.size w2 w') := ⟨_, rfl, cntRight_any _ _ _ _ _ _⟩
      have HX := Lib.hid hx
      clear hx hc hcc hw2 r2
      go_upto_region 4 with fail
      rw [show wr.alloc (Obj.cells #[Value.int .i64 x.k, .int .i64 x.v.k, .int .i64 x.v.n, .string x.v.s, .slice x.A x.n x.c] 26) = w2 from HW2.out.symm]
      go_wp2_with fail
      refine C.out.mono ?_
      rintro e w3 ⟨rfl, b3⟩
      have B3 := Lib.hid (below_then HB2.out b3)
      by_cases hr0 : r = 0
      · have hN : Hid (F = firstN (l.drop (k + 1))) := by show _ = _; rw [hs.out, firstN_ok HX.out (by rw [hr.out, hr0])]
        subst hr0
        go_wp2_with fail
        exact ⟨⟨k + 1, by omega, by go_num, hN, B3⟩, by simp [intOf]; omega⟩
      · have hN : Hid (F = r) := by show _ = _; rw [hs.out, firstN_no HX.out (by rw [hr.out]; exact hr0), hr.out]
        go_wp2_with fail
        go_ret
        exact ⟨ret_int hN.out.symm, B3.out⟩
    · have hN : Hid (F = 0) := by
        show _ = _
        rw [hs.out, List.drop_of_length_le (by rw [HL.out]; omega)]; rfl
      go_wp2_with fail
      go_ret
      exact ⟨ret_int hN.out.symm, KB.out⟩

set_option maxHeartbeats 1600000 in
theorem cntBound_any (A : Option Addr) (n c : Nat) (l : List Int) (w : World) (h : Rd w A n c (vals .i64 l)) :
    Calls Try.prog 76 #[.slice A n c] w fun e w' => e = .returned (.tuple #[outC (addW l), .int .i64 (outE (addW l))]) ∧ Below w.heap.size w w' := by
  obtain ⟨s, hs⟩ : ∃ s, Hid (addW l = s) := ⟨_, rfl⟩
  obtain ⟨g, hg⟩ : ∃ g, g = w.heap.size := ⟨_, rfl⟩
  obtain ⟨w1, hw1⟩ : ∃ w1, w1 = w.alloc zeroRow := ⟨_, rfl⟩
  have b1 : Below w.heap.size w w1 := by rw [hw1]; exact below_new (Below.refl _ _) _
  have r1 : w1.heap[g]? = some zeroRow := by rw [hw1, hg]; exact heap_alloc_new _ _
  have hg1 : g < w1.heap.size := by rw [hw1, hg]; simp
  have C := Lib.hid (cntCell_any A n c l w1 (h.below b1))
  rw [hs.out] at C
  have R1 := Lib.hid r1; have HB := Lib.hid b1; have HW1 := Lib.hid hw1; have HG := Lib.hid hg
  have HG1 := Lib.hid hg1
  rw [hs.out]
  clear h b1 r1 hw1 hg hg1
  go_enter Try.func76, Try.ntmps76
  go_wp2_with fail
  rw [← HG.out]
  rw [show w.alloc (Obj.cells #[Value.int .i64 0, .int .i64 0, .int .i64 0, .string ⟨#[]⟩, .slice none 0 0] 26) = w1 from HW1.out.symm]
  clear HW1
  refine C.out.mono ?_
  rintro e w2 ⟨rfl, b2⟩
  have B2 := Lib.hid (below_then HB.out b2)
  have R2 := Lib.hid (row_below R1.out b2)
  have HG2 : Hid (g < w2.heap.size) := by have := b2.size; have := HG1.out; show _ < _; omega
  obtain ⟨w3, hw3⟩ : ∃ w3, w3 = w2.alloc (cntRow s) := ⟨_, rfl⟩
  have B3 : Hid (Below w.heap.size w w3) := by rw [hw3]; exact below_new B2.out _
  have R3 : Hid (w3.heap[g]? = some zeroRow) := by rw [hw3]; exact row_below R2.out (below_new (Below.refl _ _) _)
  have r4 : w3.heap[w2.heap.size]? = some (cntRow s) := by rw [hw3]; exact heap_alloc_new _ _
  obtain ⟨c0, c1, c2, c3, c4⟩ := cell_row5 r4
  dsimp only at c0 c1 c2 c3 c4
  have R4 := Lib.hid r4
  have HW3 := Lib.hid hw3
  have C2 := Lib.hid (cntRight_any 2 ⟨1, s, noS⟩ none 0 0 w3)
  rw [rightN_cnt] at C2
  have HG3 : Hid (g < w3.heap.size) := by rw [hw3]; have := HG2.out; show g < _; simp; omega
  have hgw : Hid (w.heap.size ≤ g) := by rw [HG.out]; exact Nat.le_refl _
  clear r4 hw3 C R1 R2 B2 HB HG1 b2
  go_upto_region 2 with fail
  rw [show w2.alloc (Obj.cells #[Value.int .i64 2, .int .i64 1, .int .i64 s, .string ⟨#[]⟩, .slice none 0 0] 26) = w3 from HW3.out.symm]
  go_wp2_with fail
  refine C2.out.mono ?_
  rintro e w4 ⟨rfl, b4⟩
  have B4 := Lib.hid (below_then B3.out b4)
  have R5 := Lib.hid (row_below R3.out b4)
  obtain ⟨c0, c1, c2, c3, c4⟩ := cell_row5 (row_below R4.out b4)
  dsimp only at c0 c1 c2 c3 c4
  obtain ⟨e0, e1, e2, e3, e4⟩ := cell_row5 R5.out
  have f1 := frozen_row R5.out
  dsimp only at e0 e1 e2 e3 e4
  clear R3 R4 B3 HW3 C2
  cases ho : okC s with
  | true =>
    have HO := Lib.hid ho
    clear ho
    simp only [if_true]
    go_wp2_with fail
    refine bodyPost_ret (v := .tuple #[cntV s, .int .i64 0]) (results_row_tmp rfl _ _ g 26 _ (0, 0) _ rfl (set5 R5.out) Try.underlying26 rfl (by kernel_rfl) rfl) rfl ?_
    rw [outC, outE, HO.out]
    exact ⟨rfl, ((((B4.out.setCell hgw.out _).setCell hgw.out _).setCell hgw.out _).setCell hgw.out _).setCell hgw.out _⟩
  | false =>
    have HO := Lib.hid ho
    clear ho
    simp only [Bool.false_eq_true, if_false]
    go_wp2_with fail
    refine bodyPost_ret (v := .tuple #[zeroCell, .int .i64 20]) (results_row_tmp rfl _ _ g 26 _ (0, 0) _ rfl (set5 R5.out) Try.underlying26 rfl (by kernel_rfl) rfl) rfl ?_
    rw [outC, outE, HO.out]
    exact ⟨rfl, ((((B4.out.setCell hgw.out _).setCell hgw.out _).setCell hgw.out _).setCell hgw.out _).setCell hgw.out _⟩
end Go.Proofs.Ytieaobeidlhefaa
