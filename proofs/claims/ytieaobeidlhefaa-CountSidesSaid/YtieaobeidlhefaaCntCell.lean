/- Layer 8: counters that are made of numbers: what they come to, whether that may be. -/
import Derived.Test.YtieaobeidlhefaaCntRight
import Derived.Deep.RegionHeld3
import Derived.Laws.NewBlocks
namespace Go.Proofs.Ytieaobeidlhefaa
set_option maxRecDepth 100000
open Go.RowKit

abbrev noS : ByteArray := ⟨#[]⟩
/-- a counter of a number -/
abbrev cntV (s : Int) : Value := cellV 2 ⟨1, s, noS⟩ (.slice none 0 0)
abbrev cntRow (s : Int) : Obj := cellRow 2 ⟨1, s, noS⟩ (.slice none 0 0)
abbrev zeroCell : Value := cellV 0 ⟨0, 0, noS⟩ (.slice none 0 0)
abbrev zeroRow : Obj := cellRow 0 ⟨0, 0, noS⟩ (.slice none 0 0)
/-- what numbers come to -/
def addW (l : List Int) : Int := l.foldl (fun s x => IntKind.i64.wrap (s + x)) 0
theorem addW_step {l : List Int} {k : Nat} {x : Int} (h : l[k]? = some x) : addW (l.take (k + 1)) = IntKind.i64.wrap (addW (l.take k) + x) := by
  rw [List.take_add_one, h]; simp [addW]
/-- may a counter of this number be -/
def okC (s : Int) : Bool := decide (-1099511627776 ≤ s) && decide (s ≤ 1099511627776)
theorem rightN_cnt (s : Int) : rightN 2 ⟨1, s, noS⟩ 0 = if okC s then 0 else 20 := by
  have h : noS.size = 0 := rfl
  simp [rightN, okC, h]
/-- a counter of this number, if it may be -/
def outC (s : Int) : Value := if okC s then cntV s else zeroCell
def outE (s : Int) : Int := if okC s then 0 else 20

theorem set_n {w : World} {g : Nat} {a b c d e x : Value} {t : TypeId} {fr : Nat × Nat} (h : w.heap[g]? = some (.cells #[a, b, c, d, e] t fr)) : (w.setCell ⟨g, 2, none⟩ x).heap[g]? = some (.cells #[a, b, x, d, e] t fr) := by
  rw [set_row h 2 x]; rfl
theorem set_other {w : World} {g g' : Nat} {j : Nat} {x : Value} (hg : g ≠ g') : (w.setCell ⟨g, j, none⟩ x).heap[g']? = w.heap[g']? := by
  show (w.heap.modify g _)[g']? = _
  rw [Array.getElem?_modify, if_neg hg]

set_option maxHeartbeats 1600000 in
theorem cntCell_any (A : Option Addr) (n c : Nat) (l : List Int) (w : World) (h : Rd w A n c (vals .i64 l)) :
    Calls Try.prog 75 #[.slice A n c] w fun e w' => e = .returned (cntV (addW l)) ∧ Below w.heap.size w w' := by
  have hle := h.le
  have HL : Hid (l.length = n) := by show _ = _; simpa using h.len
  obtain ⟨w1, hw1⟩ : ∃ w1, w1 = w.alloc zeroRow := ⟨_, rfl⟩
  obtain ⟨w2, hw2⟩ : ∃ w2, w2 = w1.alloc (cntRow 0) := ⟨_, rfl⟩
  obtain ⟨g, hg⟩ : ∃ g, g = w.heap.size := ⟨_, rfl⟩
  have hs1 : w1.heap.size = g + 1 := by rw [hw1, hg]; simp
  have B2 : Below w.heap.size w w2 := by rw [hw2, hw1]; exact below_new (below_new (Below.refl _ _) _) _
  have r1 : w2.heap[g]? = some zeroRow := by rw [hw2, hw1, hg]; exact row_below (heap_alloc_new _ _) (below_new (Below.refl _ _) _)
  have r2 : w2.heap[g + 1]? = some (cntRow 0) := by rw [← hs1, hw2]; exact heap_alloc_new _ _
  have R1 := Lib.hid r1; have R2 := Lib.hid r2
  have HB := Lib.hid B2
  have HRD := Lib.hid h
  have HG := Lib.hid hg
  have HW1 := Lib.hid hw1; have HW2 := Lib.hid hw2; have HS1 := Lib.hid hs1
  obtain ⟨F, hF⟩ : ∃ F, Hid (F = addW l) := ⟨_, rfl⟩
  rw [← hF.out]
  clear h r1 r2 B2 hw1 hw2 hg hs1
  go_enter Try.func75, Try.ntmps75
  go_upto_region 2 with fail
  rw [← HG.out]
  rw [show w.alloc (Obj.cells #[Value.int .i64 0, .int .i64 0, .int .i64 0, .string ⟨#[]⟩, .slice none 0 0] 26) = w1 from HW1.out.symm]
  rw [show w1.alloc (Obj.cells #[Value.int .i64 2, .int .i64 1, .int .i64 0, .string ⟨#[]⟩, .slice none 0 0] 26) = w2 from HW2.out.symm]
  clear HW1 HW2
  go_wp2_with fail
  go_loopw [10] (fun v wr => ∃ (k : Nat) (s : Int), k ≤ n ∧ v = .int .i64 k ∧ Hid (addW (l.take k) = s) ∧ Hid (wr.heap[g]? = some zeroRow) ∧ Hid (wr.heap[g + 1]? = some (cntRow s)) ∧ Hid (Below w.heap.size w wr)) (fun v _ => n - (intOf v).toNat)
  case atStart => exact ⟨0, 0, Nat.zero_le _, rfl, rfl, R1, R2, HB⟩
  case round =>
    obtain ⟨k, s, hk, rfl, hs, K1, K2, KB⟩ := hrel
    obtain ⟨c0, c1, c2, c3, c4⟩ := cell_row5 K2.out
    have f0 := frozen_row K2.out 2
    dsimp only at c0 c1 c2 c3 c4
    by_cases hlt : k < n
    · obtain ⟨b, o, x, rfl, hb, hx, hc⟩ := HRD.out.at_ hlt
      have d0 := (KB.out.cell (p := ⟨b, o + k, none⟩) hb).trans hc
      obtain ⟨y, hy, rfl⟩ : ∃ y, l[k]? = some y ∧ x = .int .i64 y := by
        simp only [vals, List.getElem?_map, Option.map_eq_some_iff] at hx
        obtain ⟨y, h1, h2⟩ := hx
        exact ⟨y, h1, h2.symm⟩
      have hstep : Hid (addW (l.take (k + 1)) = IntKind.i64.wrap (s + y)) := by show _ = _; rw [addW_step hy, hs.out]
      clear hx hc hy
      go_wp2_with fail
      refine ⟨⟨k + 1, IntKind.i64.wrap (s + y), by omega, by go_num, hstep, ?_, ?_, KB.out.setCell (show w.heap.size ≤ g + 1 by rw [HG.out]; omega) _⟩, by simp [intOf]; omega⟩
      · show _ = _
        rw [set_other (by omega)]; exact K1.out
      · show _ = _
        rw [set_n K2.out]; unfold wrap64; rw [← IntKind.wrap_i64]
    · have hN : Hid (F = s) := by
        show _ = _
        rw [hF.out, ← hs.out, List.take_of_length_le (by rw [HL.out]; omega)]
      obtain ⟨e0, e1, e2, e3, e4⟩ := cell_row5 K1.out
      have f1 := frozen_row K1.out
      dsimp only at e0 e1 e2 e3 e4
      go_wp2_with fail
      have hgw : w.heap.size ≤ g := by rw [HG.out]; exact Nat.le_refl _
      refine bodyPost_ret (v := cntV s) (results_cell_row rfl _ _ g 26 _ (0, 0) _ rfl (set5 K1.out) Try.underlying26 rfl (by kernel_rfl)) rfl ?_
      rw [hN.out]
      exact ⟨rfl, ((((KB.out.setCell hgw _).setCell hgw _).setCell hgw _).setCell hgw _).setCell hgw _⟩
end Go.Proofs.Ytieaobeidlhefaa
