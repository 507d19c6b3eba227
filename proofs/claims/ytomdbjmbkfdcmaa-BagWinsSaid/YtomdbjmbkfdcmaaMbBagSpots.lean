/- Layer 9: bag.spots: what parts go by, as a map. -/
import Derived.Test.YtomdbjmbkfdcmaaMbBagMap
import Derived.Test.YtomdbjmbkfdcmaaMbMul
namespace Go.Proofs.Ytomdbjmbkfdcmaa
set_option maxRecDepth 100000
open Go.RowKit

theorem inB_next {l : List P11} {k : Nat} {x : P11} (hx : l[k]? = some x) : (fun d => inB (l.take k) d || decide (d = spP x)) = inB (l.take (k + 1)) := by
  funext d
  rw [List.take_add_one, hx]
  simp only [inB, List.any_append]
  simp [eq_comm]

set_option maxHeartbeats 1600000 in
theorem spots_any (A : Option Addr) (n c : Nat) (l : List P11) (w : World) (h : RdP w A n c l) :
    Calls Try.prog 48 #[.slice A n c] w fun e w' => ∃ g, e = .returned (.map (some g)) ∧ w.heap.size ≤ g ∧ MapQ w' g (inB l) ∧ Below w.heap.size w w' := by
  have hl := h.len
  have hle := h.le
  have HRD := Lib.hid h; have HL := Lib.hid hl
  clear h hl
  have hM0 : Hid (MapQ (w.alloc (.map #[] 0)) w.heap.size (inB (l.take 0))) := ⟨#[], 0, heap_alloc_new _ _, by simp, by simp [inB]⟩
  have hmm : ∀ (z : Int) (W : World), (Instr.makeMap 74 (some (.int .i64 z))).run Try.prog W = .ok (.map (some W.heap.size)) (W.alloc (.map #[] 0)) := fun z W => by
    unfold Instr.makeMap
    simp only [Sem.run_bind, run_underlying Try.underlying74, Result.andThen_ok]
    rfl
  go_enter Try.func48, Try.ntmps48
  go_wp2_with fail
  go_loopw [11] (fun i wr => ∃ k : Nat, k ≤ n ∧ i = .int .i64 k ∧ Hid (MapQ wr w.heap.size (inB (l.take k))) ∧ Below w.heap.size w wr) (fun i _ => n - (intOf i).toNat)
  case atStart => exact ⟨0, Nat.zero_le _, rfl, hM0, below_new (Below.refl _ _) _⟩
  case round =>
    clear hM0
    obtain ⟨k, hk, rfl, hM, hbel⟩ := hrel
    by_cases hlt : k < n
    · obtain ⟨b, o, x, rfl, hb, hx, hld⟩ := HRD.out.part hlt
      obtain ⟨c0, c1, c2, c3, c4, c5, c6, c7, c8, c9, c10⟩ := hld _ hbel
      obtain ⟨w2, hw2⟩ : ∃ w2, w2 = wr.alloc (partCells x) := ⟨_, rfl⟩
      have B2 : Below wr.heap.size wr w2 := by rw [hw2]; exact below_new (Below.refl _ _) _
      obtain ⟨n0, n1, n2, n3, n4, n5, n6, n7, n8, n9, n10⟩ := part_row (show w2.heap[wr.heap.size]? = some (partCells x) by rw [hw2]; exact heap_alloc_new _ _)
      have C := Lib.hid (spotOf_any x w2)
      have HM2 := Lib.hid (hM.out.below B2)
      have HB2 := Lib.hid (below_then hbel B2)
      have HX := Lib.hid hx
      have HW2 := Lib.hid hw2
      clear hld hx hM hbel hw2 B2
      go_upto_region 5 with fail
      rw [show wr.alloc (Obj.cells #[Value.int .i64 x.v.k, .int .i64 x.v.n, .string x.v.s, .int .i64 x.d.d, .int .i64 x.d.s, .int .i64 x.i, .int .i64 x.t, .int .i64 x.a.d, .int .i64 x.a.s, .int .i64 x.j, .bool x.g] 30) = w2 from HW2.out.symm]
      clear HW2 c0 c1 c2 c3 c4 c5 c6 c7 c8 c9 c10
      go_wp2_with fail
      refine C.out.mono ?_
      rintro e w3 ⟨rfl, bg⟩
      obtain ⟨w4, hput, hm4, hb4, hsz4⟩ := run_put_spot (HM2.out.below bg.below) (spP x)
      have HM4 : Hid (MapQ w4 w.heap.size (inB (l.take (k + 1)))) := by show MapQ _ _ _; rw [← inB_next HX.out]; exact hm4
      have HB4 := Lib.hid ((below_then HB2.out bg.below).trans hb4)
      clear C HM2 HB2 bg hm4 hb4 hsz4 n0 n1 n2 n3 n4 n5 n6 n7 n8 n9 n10
      go_wp2_with fail
      exact ⟨⟨k + 1, by omega, by go_num, HM4, HB4⟩, by simp [intOf]; omega⟩
    · have hfin : Hid (MapQ wr w.heap.size (inB l)) := by
        have h1 := HL.out
        have h2 := hM.out
        rw [List.take_of_length_le (by omega)] at h2
        exact h2
      go_wp2
      go_ret
      exact ⟨_, rfl, Nat.le_refl _, hfin.out, hbel⟩
end Go.Proofs.Ytomdbjmbkfdcmaa

