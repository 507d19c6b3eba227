/- Several texts laid together: ClkGrown, TxtPlain, TxtMaps, TxtSeq. -/
import Derived.Test.YtfljhnalmiibeaaGreatMbTxtMath
import Derived.Test.YtfljhnalmiibeaaGreatMbValMath
import Derived.Test.YtfljhnalmiibeaaGreatMbBasMath
import Derived.Test.YtfljhnalmiibeaaGreatMbBagSorted
import Derived.RangeFuncNested
import Derived.RangeFuncBound
import Derived.RangeFuncCalls
import Derived.RangeFuncLeaves
import Derived.RangeFuncBox
import Derived.Maps.AppendAt
import Derived.Shelf.Abstract
import Derived.Shelf.RegionOpen
import Derived.OwnWalkIn
import Derived.TacticsInMore
import Derived.LoopNIn
import Derived.LoopIn
import Derived.Sort.CutIn
namespace Go.Proofs.YtfljhnalmiibeaaGreat
set_option maxRecDepth 100000
open Go.RowKit
set_option maxHeartbeats 800000 in
theorem clkCompareG_any (a b : S3) (w : World) : Calls Tryz.prog 193 #[a.agg, b.agg] w fun e w' => e = .returned (.int .i64 (cmpS a b)) ∧ Grown w w' := by
  have P := Lib.hid (fun t d q => numbers_any t d q)
  obtain ⟨t, d, q⟩ := a
  obtain ⟨u, f, r⟩ := b
  go_enter Tryz.func193, Tryz.ntmps193
  go_upto_region 1 with fail
  go_cut [5, 6] (fun s5 s6 W => ∃ gx gy : Nat, s5 = .pointer (some ⟨gx, 0, none⟩) ∧ s6 = .pointer (some ⟨gy, 0, none⟩) ∧ W.heap[gx]? = some (.cells #[.int .i64 t, .int .i64 d, .int .i64 q] 49) ∧ W.heap[gy]? = some (.cells #[.int .i64 u, .int .i64 f, .int .i64 r] 49) ∧ Grown w W)
  case first =>
    obtain ⟨w1, hw1⟩ : ∃ w1, w1 = ((w.alloc (Obj.cells #[Value.int IntKind.i64 t, Value.int IntKind.i64 d, Value.int IntKind.i64 q] 188)).alloc (Obj.cells #[Value.int IntKind.i64 u, Value.int IntKind.i64 f, Value.int IntKind.i64 r] 188)) := ⟨_, rfl⟩
    have B1 : Grown w w1 := by rw [hw1]; exact ((Grown.refl _).alloc _).alloc _
    have ca : ∀ j, w1.cell? ⟨w.heap.size, j, none⟩ = #[Value.int IntKind.i64 t, Value.int IntKind.i64 d, Value.int IntKind.i64 q][j]? := fun j => by
      refine cell_row (t := 188) (fr := (0, 0)) ?_ j
      rw [hw1, Below.heap_alloc _ _ _ (by simp)]
      exact heap_alloc_new _ _
    have cb : ∀ j, w1.cell? ⟨w.heap.size + 1, j, none⟩ = #[Value.int IntKind.i64 u, Value.int IntKind.i64 f, Value.int IntKind.i64 r][j]? := fun j => by
      refine cell_row (t := 188) (fr := (0, 0)) ?_ j
      rw [hw1]
      exact heap_at (by simp)
    rw [← hw1]
    have c0 := ca 0; have c1 := ca 1; have c2 := ca 2
    have d0 := cb 0; have d1 := cb 1; have d2 := cb 2
    simp only [List.getElem?_toArray, List.getElem?_cons_zero, List.getElem?_cons_succ] at c0 c1 c2 d0 d1 d2
    clear ca cb hw1
    have K : Hid (∀ W, Below w1.heap.size w1 W → W.cell? ⟨w.heap.size, 0, none⟩ = some (.int .i64 t) ∧ W.cell? ⟨w.heap.size, 1, none⟩ = some (.int .i64 d) ∧ W.cell? ⟨w.heap.size, 2, none⟩ = some (.int .i64 q) ∧ W.cell? ⟨w.heap.size + 1, 0, none⟩ = some (.int .i64 u) ∧ W.cell? ⟨w.heap.size + 1, 1, none⟩ = some (.int .i64 f) ∧ W.cell? ⟨w.heap.size + 1, 2, none⟩ = some (.int .i64 r)) := by
      intro W hW
      have ha := block_lt_of_cell c0
      have hb := block_lt_of_cell d0
      have h1 : ∀ p : Addr, p.block < w1.heap.size → W.cell? p = w1.cell? p := fun p hp => hW.cell hp
      exact ⟨(h1 ⟨_, 0, none⟩ ha).trans c0, (h1 ⟨_, 1, none⟩ ha).trans c1, (h1 ⟨_, 2, none⟩ ha).trans c2, (h1 ⟨_, 0, none⟩ hb).trans d0, (h1 ⟨_, 1, none⟩ hb).trans d1, (h1 ⟨_, 2, none⟩ hb).trans d2⟩
    go_wp2_with fail
    go_region_held3 (fun W => W.cell? ⟨w.heap.size, 0, none⟩ = some (.int .i64 t) ∧ W.cell? ⟨w.heap.size, 1, none⟩ = some (.int .i64 d) ∧ W.cell? ⟨w.heap.size, 2, none⟩ = some (.int .i64 q) ∧ W.cell? ⟨w.heap.size + 1, 0, none⟩ = some (.int .i64 u) ∧ W.cell? ⟨w.heap.size + 1, 1, none⟩ = some (.int .i64 f) ∧ W.cell? ⟨w.heap.size + 1, 2, none⟩ = some (.int .i64 r))
      (first | (refine K.out _ ?_; repeat (first | exact Below.refl _ _ | refine below_new ?_ _ | refine Below.drew ?_)))
      (first
        | (go_at_call 202; refine (P.out _ _ _ _).mono ?_; rintro e wx ⟨rfl, rfl⟩))
    all_goals
      go_wp2_with fail
      go_meet
      refine ⟨_, _, rfl, rfl, ?_, ?_, B1.trans ?_⟩
      · repeat (first | (refine heap_at ?_; (try simp only [World.size_alloc]); first | done | omega) | refine heap_drew ?_ | (refine heap_past ?_ ?_; focus ((try simp only [World.size_alloc]); first | done | omega)))
      · repeat (first | (refine heap_at ?_; (try simp only [World.size_alloc]); first | done | omega) | refine heap_drew ?_ | (refine heap_past ?_ ?_; focus ((try simp only [World.size_alloc]); first | done | omega)))
      · repeat (first | exact Grown.refl _ | refine Grown.alloc ?_ _ | refine Grown.drew ?_)
  case rest =>
    obtain ⟨gx, gy, rfl, rfl, hx, hy, hbel⟩ := hcut
    have x0 := cell_row hx 0; have x1 := cell_row hx 1; have x2 := cell_row hx 2
    have y0 := cell_row hy 0; have y1 := cell_row hy 1; have y2 := cell_row hy 2
    simp only [List.getElem?_toArray, List.getElem?_cons_zero, List.getElem?_cons_succ] at x0 x1 x2 y0 y1 y2
    have HX := Lib.hid hx; have HY := Lib.hid hy
    clear hx hy
    have EQ := run_equalIn_arr3 t d q u f r wc
    have PC := Lib.hid (fun x y => cmpCompareC_any x y)
    rcases Decidable.em (t = u) with rfl | h0
    rotate_left
    · have hne : (t == u) = false := by simpa using h0
      rw [show (t == u && d == f && q == r) = false by simp [hne]] at EQ
      have HR := Lib.hid (show cmpS ⟨t, d, q⟩ ⟨u, f, r⟩ = cmpI t u by simp [cmpS, h0])
      clear h0 HX HY
      go_wp2_with fail
      clear EQ
      go_loopw [7] (fun i wr => ∃ k : Nat, k ≤ 0 ∧ i = .int .i64 k ∧ Grown w wr ∧ wr.cell? ⟨gx, 0, none⟩ = some (.int .i64 t) ∧ wr.cell? ⟨gx, 1, none⟩ = some (.int .i64 d) ∧ wr.cell? ⟨gx, 2, none⟩ = some (.int .i64 q) ∧ wr.cell? ⟨gy, 0, none⟩ = some (.int .i64 u) ∧ wr.cell? ⟨gy, 1, none⟩ = some (.int .i64 f) ∧ wr.cell? ⟨gy, 2, none⟩ = some (.int .i64 r)) (fun i _ => 0 - (intOf i).toNat)
      case atStart => exact ⟨0, by omega, rfl, hbel, x0, x1, x2, y0, y1, y2⟩
      case round =>
        clear x0 x1 x2 y0 y1 y2 hbel
        obtain ⟨k, hk, rfl, hbel, x0, x1, x2, y0, y1, y2⟩ := hrel
        obtain rfl : k = 0 := by omega
        clear hk
        go_wp2
        go_quiet (fail)
        have hbel2 := hbel.drewN nq
        replace x0 : (wr.drewN nq).cell? _ = _ := x0
        replace x1 : (wr.drewN nq).cell? _ = _ := x1
        replace x2 : (wr.drewN nq).cell? _ = _ := x2
        replace y0 : (wr.drewN nq).cell? _ = _ := y0
        replace y1 : (wr.drewN nq).cell? _ = _ := y1
        replace y2 : (wr.drewN nq).cell? _ = _ := y2
        generalize wr.drewN nq = w3 at hbel2 x0 x1 x2 y0 y1 y2 ⊢
        go_wp2_with fail
        have hb3 := hbel2.drew
        go_region_held3 (fun W => Grown w W ∧ W.cell? ⟨gx, 0, none⟩ = some (.int .i64 t) ∧ W.cell? ⟨gx, 1, none⟩ = some (.int .i64 d) ∧ W.cell? ⟨gx, 2, none⟩ = some (.int .i64 q) ∧ W.cell? ⟨gy, 0, none⟩ = some (.int .i64 u) ∧ W.cell? ⟨gy, 1, none⟩ = some (.int .i64 f) ∧ W.cell? ⟨gy, 2, none⟩ = some (.int .i64 r))
          (first
            | (go_split_ands
               refine ⟨?_, ?_, ?_, ?_, ?_, ?_, ?_⟩
               all_goals assumption)
            | (go_split_ands
               refine ⟨?_, ?_, ?_, ?_, ?_, ?_, ?_⟩
               · exact Grown.drew (by assumption)
               all_goals (show World.cell? _ _ = _; assumption)))
          (first
            | (go_at_call 73; refine (PC.out _ _ _).mono ?_; rintro e wx ⟨rfl, rfl⟩))
        all_goals
          go_wp2
          go_ret
          go_split_ands
          exact ⟨by rw [HR.out]; rfl, by assumption⟩
    rcases Decidable.em (d = f) with rfl | h1
    rotate_left
    · have hne : (d == f) = false := by simpa using h1
      rw [show (t == t && d == f && q == r) = false by simp [hne]] at EQ
      have HR := Lib.hid (show cmpS ⟨t, d, q⟩ ⟨t, f, r⟩ = cmpI d f by simp [cmpS, h1])
      clear h1 HX HY
      go_wp2_with fail
      clear EQ
      go_loopw [7] (fun i wr => ∃ k : Nat, k ≤ 1 ∧ i = .int .i64 k ∧ Grown w wr ∧ wr.cell? ⟨gx, 0, none⟩ = some (.int .i64 t) ∧ wr.cell? ⟨gx, 1, none⟩ = some (.int .i64 d) ∧ wr.cell? ⟨gx, 2, none⟩ = some (.int .i64 q) ∧ wr.cell? ⟨gy, 0, none⟩ = some (.int .i64 t) ∧ wr.cell? ⟨gy, 1, none⟩ = some (.int .i64 f) ∧ wr.cell? ⟨gy, 2, none⟩ = some (.int .i64 r)) (fun i _ => 1 - (intOf i).toNat)
      case atStart => exact ⟨0, by omega, rfl, hbel, x0, x1, x2, y0, y1, y2⟩
      case round =>
        clear x0 x1 x2 y0 y1 y2 hbel
        obtain ⟨k, hk, rfl, hbel, x0, x1, x2, y0, y1, y2⟩ := hrel
        obtain rfl | rfl : k = 0 ∨ k = 1 := by omega
        · clear hk
          go_wp2
          go_quiet (fail)
          have hbel2 := hbel.drewN nq
          replace x0 : (wr.drewN nq).cell? _ = _ := x0
          replace x1 : (wr.drewN nq).cell? _ = _ := x1
          replace x2 : (wr.drewN nq).cell? _ = _ := x2
          replace y0 : (wr.drewN nq).cell? _ = _ := y0
          replace y1 : (wr.drewN nq).cell? _ = _ := y1
          replace y2 : (wr.drewN nq).cell? _ = _ := y2
          generalize wr.drewN nq = w3 at hbel2 x0 x1 x2 y0 y1 y2 ⊢
          go_wp2
          exact ⟨⟨1, by omega, by go_num, hbel2, x0, x1, x2, y0, y1, y2⟩, by simp [intOf]⟩
        · clear hk
          go_wp2
          go_quiet (fail)
          have hbel2 := hbel.drewN nq
          replace x0 : (wr.drewN nq).cell? _ = _ := x0
          replace x1 : (wr.drewN nq).cell? _ = _ := x1
          replace x2 : (wr.drewN nq).cell? _ = _ := x2
          replace y0 : (wr.drewN nq).cell? _ = _ := y0
          replace y1 : (wr.drewN nq).cell? _ = _ := y1
          replace y2 : (wr.drewN nq).cell? _ = _ := y2
          generalize wr.drewN nq = w3 at hbel2 x0 x1 x2 y0 y1 y2 ⊢
          go_wp2_with fail
          have hb3 := hbel2.drew
          go_region_held3 (fun W => Grown w W ∧ W.cell? ⟨gx, 0, none⟩ = some (.int .i64 t) ∧ W.cell? ⟨gx, 1, none⟩ = some (.int .i64 d) ∧ W.cell? ⟨gx, 2, none⟩ = some (.int .i64 q) ∧ W.cell? ⟨gy, 0, none⟩ = some (.int .i64 t) ∧ W.cell? ⟨gy, 1, none⟩ = some (.int .i64 f) ∧ W.cell? ⟨gy, 2, none⟩ = some (.int .i64 r))
            (first
              | (go_split_ands
                 refine ⟨?_, ?_, ?_, ?_, ?_, ?_, ?_⟩
                 all_goals assumption)
              | (go_split_ands
                 refine ⟨?_, ?_, ?_, ?_, ?_, ?_, ?_⟩
                 · exact Grown.drew (by assumption)
                 all_goals (show World.cell? _ _ = _; assumption)))
            (first
              | (go_at_call 73; refine (PC.out _ _ _).mono ?_; rintro e wx ⟨rfl, rfl⟩))
          all_goals
            go_wp2
            go_ret
            go_split_ands
            exact ⟨by rw [HR.out]; rfl, by assumption⟩
    rcases Decidable.em (q = r) with rfl | h2
    rotate_left
    · have hne : (q == r) = false := by simpa using h2
      rw [show (t == t && d == d && q == r) = false by simp [hne]] at EQ
      have HR := Lib.hid (show cmpS ⟨t, d, q⟩ ⟨t, d, r⟩ = cmpI q r by simp [cmpS])
      clear h2 HX HY
      go_wp2_with fail
      clear EQ
      go_loopw [7] (fun i wr => ∃ k : Nat, k ≤ 2 ∧ i = .int .i64 k ∧ Grown w wr ∧ wr.cell? ⟨gx, 0, none⟩ = some (.int .i64 t) ∧ wr.cell? ⟨gx, 1, none⟩ = some (.int .i64 d) ∧ wr.cell? ⟨gx, 2, none⟩ = some (.int .i64 q) ∧ wr.cell? ⟨gy, 0, none⟩ = some (.int .i64 t) ∧ wr.cell? ⟨gy, 1, none⟩ = some (.int .i64 d) ∧ wr.cell? ⟨gy, 2, none⟩ = some (.int .i64 r)) (fun i _ => 2 - (intOf i).toNat)
      case atStart => exact ⟨0, by omega, rfl, hbel, x0, x1, x2, y0, y1, y2⟩
      case round =>
        clear x0 x1 x2 y0 y1 y2 hbel
        obtain ⟨k, hk, rfl, hbel, x0, x1, x2, y0, y1, y2⟩ := hrel
        obtain rfl | rfl | rfl : k = 0 ∨ k = 1 ∨ k = 2 := by omega
        · clear hk
          go_wp2
          go_quiet (fail)
          have hbel2 := hbel.drewN nq
          replace x0 : (wr.drewN nq).cell? _ = _ := x0
          replace x1 : (wr.drewN nq).cell? _ = _ := x1
          replace x2 : (wr.drewN nq).cell? _ = _ := x2
          replace y0 : (wr.drewN nq).cell? _ = _ := y0
          replace y1 : (wr.drewN nq).cell? _ = _ := y1
          replace y2 : (wr.drewN nq).cell? _ = _ := y2
          generalize wr.drewN nq = w3 at hbel2 x0 x1 x2 y0 y1 y2 ⊢
          go_wp2
          exact ⟨⟨1, by omega, by go_num, hbel2, x0, x1, x2, y0, y1, y2⟩, by simp [intOf]⟩
        · clear hk
          go_wp2
          go_quiet (fail)
          have hbel2 := hbel.drewN nq
          replace x0 : (wr.drewN nq).cell? _ = _ := x0
          replace x1 : (wr.drewN nq).cell? _ = _ := x1
          replace x2 : (wr.drewN nq).cell? _ = _ := x2
          replace y0 : (wr.drewN nq).cell? _ = _ := y0
          replace y1 : (wr.drewN nq).cell? _ = _ := y1
          replace y2 : (wr.drewN nq).cell? _ = _ := y2
          generalize wr.drewN nq = w3 at hbel2 x0 x1 x2 y0 y1 y2 ⊢
          go_wp2
          exact ⟨⟨2, by omega, by go_num, hbel2, x0, x1, x2, y0, y1, y2⟩, by simp [intOf]⟩
        · clear hk
          go_wp2
          go_quiet (fail)
          have hbel2 := hbel.drewN nq
          replace x0 : (wr.drewN nq).cell? _ = _ := x0
          replace x1 : (wr.drewN nq).cell? _ = _ := x1
          replace x2 : (wr.drewN nq).cell? _ = _ := x2
          replace y0 : (wr.drewN nq).cell? _ = _ := y0
          replace y1 : (wr.drewN nq).cell? _ = _ := y1
          replace y2 : (wr.drewN nq).cell? _ = _ := y2
          generalize wr.drewN nq = w3 at hbel2 x0 x1 x2 y0 y1 y2 ⊢
          go_wp2_with fail
          have hb3 := hbel2.drew
          go_region_held3 (fun W => Grown w W ∧ W.cell? ⟨gx, 0, none⟩ = some (.int .i64 t) ∧ W.cell? ⟨gx, 1, none⟩ = some (.int .i64 d) ∧ W.cell? ⟨gx, 2, none⟩ = some (.int .i64 q) ∧ W.cell? ⟨gy, 0, none⟩ = some (.int .i64 t) ∧ W.cell? ⟨gy, 1, none⟩ = some (.int .i64 d) ∧ W.cell? ⟨gy, 2, none⟩ = some (.int .i64 r))
            (first
              | (go_split_ands
                 refine ⟨?_, ?_, ?_, ?_, ?_, ?_, ?_⟩
                 all_goals assumption)
              | (go_split_ands
                 refine ⟨?_, ?_, ?_, ?_, ?_, ?_, ?_⟩
                 · exact Grown.drew (by assumption)
                 all_goals (show World.cell? _ _ = _; assumption)))
            (first
              | (go_at_call 73; refine (PC.out _ _ _).mono ?_; rintro e wx ⟨rfl, rfl⟩))
          all_goals
            go_wp2
            go_ret
            go_split_ands
            exact ⟨by rw [HR.out]; rfl, by assumption⟩
    rw [show (t == t && d == d && q == q) = true by simp] at EQ
    have HR := Lib.hid (cmpS_self ⟨t, d, q⟩)
    go_wp2
    go_ret
    exact ⟨by rw [HR.out]; rfl, hbel⟩
theorem clkLessG_any (a b : S3) (w : World) : Calls Tryz.prog 174 #[a.agg, b.agg] w fun e w' => e = .returned (.bool (lessS a b)) ∧ Grown w w' := by
  have P := Lib.hid (fun W => clkCompareG_any a b W)
  have hr := Lib.hid (cmpS_less a b)
  obtain ⟨t, d, q⟩ := a
  obtain ⟨u, f, r⟩ := b
  obtain ⟨c, hc⟩ : ∃ c, Hid (c = cmpS ⟨t, d, q⟩ ⟨u, f, r⟩) := ⟨_, rfl⟩
  rw [← hc.out] at P hr
  clear hc
  go_enter Tryz.func174, Tryz.ntmps174
  go_wp2_with fail
  have B1 := ((Grown.refl w).alloc (Obj.cells #[.int .i64 t, .int .i64 d, .int .i64 q] 188)).alloc (Obj.cells #[.int .i64 u, .int .i64 f, .int .i64 r] 188)
  refine (P.out _).mono ?_
  rintro e w2 ⟨rfl, bb⟩
  have B2 := B1.trans bb
  go_wp2
  go_ret
  exact ⟨ret_bool (by rw [← hr.out]), B2⟩
end Go.Proofs.YtfljhnalmiibeaaGreat

namespace Go.Proofs.YtfljhnalmiibeaaGreat
set_option maxRecDepth 100000
open Go.RowKit
def N3.cells (x : N3) : List Value := [.int .i64 x.d.d, .int .i64 x.d.s, .int .i64 x.i]
abbrev N3.agg (x : N3) : Value := .agg #[.int .i64 x.d.d, .int .i64 x.d.s, .int .i64 x.i]
abbrev nameRow (x : N3) : Obj := .cells #[.int .i64 x.d.d, .int .i64 x.d.s, .int .i64 x.i] 169
abbrev stampRow (x : S3) : Obj := .cells #[.int .i64 x.t, .int .i64 x.d, .int .i64 x.q] 188
theorem nameOf_is (p : P11) (w : World) : Calls Tryz.prog 144 #[p.agg] w fun e w' => e = .returned (nm p).agg ∧ w' = (w.alloc (partCells p)).alloc (nameRow (nm p)) := by
  go_enter Tryz.func144, Tryz.ntmps144
  go_wp2
  refine bodyPost_ret (v := (nm p).agg) (results_cell_row rfl _ _ (w.heap.size + 1) 169 _ (0, 0) _ rfl (heap_at (by simp)) Tryz.underlying169 rfl (by kernel_rfl)) rfl ⟨rfl, rfl⟩
theorem parentOf_is (p : P11) (w : World) : Calls Tryz.prog 146 #[p.agg] w fun e w' => e = .returned (upN p).agg ∧ w' = (w.alloc (partCells p)).alloc (nameRow (upN p)) := by
  go_enter Tryz.func146, Tryz.ntmps146
  go_wp2
  refine bodyPost_ret (v := (upN p).agg) (results_cell_row rfl _ _ (w.heap.size + 1) 169 _ (0, 0) _ rfl (heap_at (by simp)) Tryz.underlying169 rfl (by kernel_rfl)) rfl ⟨rfl, rfl⟩
theorem stampOf_is (p : P11) (w : World) : Calls Tryz.prog 173 #[p.agg] w fun e w' => e = .returned (stP p).agg ∧ w' = (w.alloc (partCells p)).alloc (stampRow (stP p)) := by
  go_enter Tryz.func173, Tryz.ntmps173
  go_wp2
  refine bodyPost_ret (v := (stP p).agg) (results_cell_row rfl _ _ (w.heap.size + 1) 188 _ (0, 0) _ rfl (heap_at (by simp)) Tryz.underlying188 rfl (by kernel_rfl)) rfl ⟨rfl, rfl⟩
theorem stampOf_any (p : P11) (w : World) : Calls Tryz.prog 173 #[p.agg] w fun e w' => e = .returned (stP p).agg ∧ Grown w w' :=
  (stampOf_is p w).mono fun _ _ h => ⟨h.1, by rw [h.2]; exact ((Grown.refl w).alloc _).alloc _⟩
/-- may there be a transaction of that stamp -/
def rightSt (s : S3) : Bool := decide (1 ≤ s.t ∧ s.t ≤ 1125899906842624) && (decide (1 ≤ s.d ∧ s.d ≤ 64) && decide (1 ≤ s.q ∧ s.q ≤ 1048576))
theorem rightSt_iff (s : S3) : rightSt s = true ↔ (1 ≤ s.t ∧ s.t ≤ 1125899906842624) ∧ (1 ≤ s.d ∧ s.d ≤ 64) ∧ 1 ≤ s.q ∧ s.q ≤ 1048576 := by
  simp only [rightSt, Bool.and_eq_true, decide_eq_true_iff]
set_option maxHeartbeats 800000 in
theorem rightStamp_any (s : S3) (w : World) : Calls Tryz.prog 172 #[s.agg] w fun e w' => e = .returned (.bool (rightSt s)) ∧ Grown w w' := by
  obtain ⟨t, d, q⟩ := s
  go_enter Tryz.func172, Tryz.ntmps172
  go_wp2
  all_goals go_ret
  all_goals refine ⟨?_, (Grown.refl w).alloc _⟩
  all_goals refine ret_bool ?_
  all_goals
    rw [Bool.eq_iff_iff, rightSt_iff]
    simp
    try omega
end Go.Proofs.YtfljhnalmiibeaaGreat

namespace Go.Proofs.YtfljhnalmiibeaaGreat
set_option maxRecDepth 100000
open Go.RowKit Go.MapKept
theorem fieldsName : (Tryz.prog.fieldsOf 169).toList = [{ name := "dot", type := 40, offset := 0, embedded := false, tag := "", pkgPath := "homestead/text", byteOffset := 0 }, { name := "at", type := 3, offset := 2, embedded := false, tag := "", pkgPath := "homestead/text", byteOffset := 16 }] := by kernel_rfl
theorem n3_is (a b i x y j : Int) : decide ((⟨⟨a, b⟩, i⟩ : N3) = ⟨⟨x, y⟩, j⟩) = (decide ((⟨a, b⟩ : D2) = ⟨x, y⟩) && (i == j)) := by
  refine Bool.eq_iff_iff.2 ?_
  simp
theorem run_equalIn_nameF (f : Nat) (a b : N3) (W : World) :
    (Op.equalIn (f + 3) 169 a.agg b.agg).run Tryz.prog W = .ok (decide (a = b)) W := by
  obtain ⟨⟨a1, a2⟩, i⟩ := a; obtain ⟨⟨x, y⟩, j⟩ := b
  rw [n3_is]
  have ht : Tryz.prog.underlying 169 = some (.struct (Tryz.prog.fieldsOf 169)) := by kernel_rfl
  have hp : Tryz.prog.stoodInHeld 169 = false := by kernel_rfl
  have p0 : ∀ a b c : Value, (part 40 #[a, b, c] 0).run Tryz.prog W = .ok (.agg #[a, b]) W := fun _ _ _ => rfl
  have p1 : ∀ a b c : Value, (part 3 #[a, b, c] 2).run Tryz.prog W = .ok c W := fun _ _ _ => rfl
  have q0 : ∀ a b : Int, (Op.equalIn (f + 2) 3 (.int .i64 a) (.int .i64 b)).run Tryz.prog W = .ok (a == b) W := fun a b => run_equalIn_int W (f + 1) _ _ _ a b Tryz.underlying3
  have qd : ∀ a b x y, (Op.equalIn (f + 2) 40 (.agg #[.int .i64 a, .int .i64 b]) (.agg #[.int .i64 x, .int .i64 y])).run Tryz.prog W = .ok (decide ((⟨a, b⟩ : D2) = ⟨x, y⟩)) W := fun a b x y => run_equalIn_dotF f ⟨a, b⟩ ⟨x, y⟩ W
  show (Op.equalIn (f + 2 + 1) _ _ _).run _ _ = _
  rw [N3.agg, N3.agg, run_equalIn_struct W (f + 2) _ _ _ ht hp, fieldsName]
  generalize hP : Tryz.prog = P at p0 p1 q0 qd ⊢
  simp only [Op.eqFields]
  rw [if_pos (by decide), if_pos (by decide)]
  have r1 := q0 i j
  have r2 := qd a1 a2 x y
  obtain ⟨b1, e1⟩ : ∃ b, b = (i == j) := ⟨_, rfl⟩
  obtain ⟨b2, e2⟩ : ∃ b, b = (decide ((⟨a1, a2⟩ : D2) = ⟨x, y⟩)) := ⟨_, rfl⟩
  rw [← e1] at r1 ⊢
  rw [← e2] at r2 ⊢
  clear e1 e2 q0 qd ht hp hP
  cases b2
  · simp [*, Sem.run_bind, Result.andThen]
  cases b1
  · simp [*, Sem.run_bind, Result.andThen]
  simp [*, Sem.run_bind, Result.andThen]
theorem run_checkKey_dotN (em : Bool) (n : Nat) (d : D2) (w : World) : (Instr.checkKey em (n + 2) 40 d.agg).run Tryz.prog w = .ok () w := by
  obtain ⟨a, b⟩ := d
  have ht : Tryz.prog.underlying 40 = some (.struct (Tryz.prog.fieldsOf 40)) := by kernel_rfl
  have p0 : ∀ a b : Value, (part 3 #[a, b] 0).run Tryz.prog w = .ok a w := fun _ _ => rfl
  have p1 : ∀ a b : Value, (part 3 #[a, b] 1).run Tryz.prog w = .ok b w := fun _ _ => rfl
  have q0 : ∀ x : Int, (Instr.checkKey em (n + 1) 3 (.int .i64 x)).run Tryz.prog w = .ok () w := fun x => Go.MapKept.run_checkKey (d := .int .i64) (k := .int .i64 x) Tryz.underlying3 (show IntKind.i64 = IntKind.i64 from rfl) em n
  show (Instr.checkKey em (n + 1 + 1) _ _).run _ _ = _
  unfold Instr.checkKey
  simp only [Sem.run_bind, run_underlying ht, Result.andThen_ok]
  have hf := fieldsDot
  obtain ⟨fs, hfs⟩ : ∃ fs, Tryz.prog.fieldsOf 40 = fs := ⟨_, rfl⟩
  rw [hfs] at hf ⊢
  cases fs with
  | mk l =>
    simp only at hf
    subst hf
    simp [Sem.run_bind, p0, p1, q0, Result.andThen]
theorem run_checkKey_name (em : Bool) (d : N3) (w : World) : (Instr.checkKey em 10000 169 d.agg).run Tryz.prog w = .ok () w := by
  obtain ⟨⟨a, b⟩, i⟩ := d
  have ht : Tryz.prog.underlying 169 = some (.struct (Tryz.prog.fieldsOf 169)) := by kernel_rfl
  have p0 : ∀ a b c : Value, (part 40 #[a, b, c] 0).run Tryz.prog w = .ok (.agg #[a, b]) w := fun _ _ _ => rfl
  have p1 : ∀ a b c : Value, (part 3 #[a, b, c] 2).run Tryz.prog w = .ok c w := fun _ _ _ => rfl
  have q0 : ∀ x : Int, (Instr.checkKey em 9999 3 (.int .i64 x)).run Tryz.prog w = .ok () w := fun x => Go.MapKept.run_checkKey (d := .int .i64) (k := .int .i64 x) Tryz.underlying3 (show IntKind.i64 = IntKind.i64 from rfl) em 9998
  have q1 : ∀ x y : Int, (Instr.checkKey em 9999 40 (.agg #[.int .i64 x, .int .i64 y])).run Tryz.prog w = .ok () w := fun x y => run_checkKey_dotN em 9997 ⟨x, y⟩ w
  rw [show (10000 : Nat) = 9999 + 1 from rfl]
  unfold Instr.checkKey
  simp only [Sem.run_bind, run_underlying ht, Result.andThen_ok]
  have hf := fieldsName
  obtain ⟨fs, hfs⟩ : ∃ fs, Tryz.prog.fieldsOf 169 = fs := ⟨_, rfl⟩
  rw [hfs] at hf ⊢
  cases fs with
  | mk l =>
    simp only at hf
    subst hf
    simp [Sem.run_bind, p0, p1, q0, q1, Result.andThen]
theorem bits_dot (d : D2) : Instr.sameBits 10000 d.agg d.agg = true := by
  obtain ⟨a, b⟩ := d
  rw [show (10000 : Nat) = 9999 + 1 from rfl]
  simp [Instr.sameBits]
theorem bits_name (d : N3) : Instr.sameBits 10000 d.agg d.agg = true := by
  obtain ⟨⟨a, b⟩, i⟩ := d
  rw [show (10000 : Nat) = 9999 + 1 from rfl]
  simp [Instr.sameBits]
theorem keyNI : KeyOf Tryz.prog 166 169 3 N3.agg (.int .i64 0) where
  und := Tryz.underlying166
  find := fun k es w => run_findKey_eq (w := w) (by kernel_rfl) _ _
  chk := fun em k w => run_checkKey_name em k w
  eq := fun a b w => run_equalIn_nameF 9997 a b w
  zero := fun w => Tryz.zeroValue3 w
  bits := bits_name
theorem keyNP : KeyOf Tryz.prog 172 169 70 N3.agg (.slice none 0 0) where
  und := Tryz.underlying172
  find := fun k es w => run_findKey_eq (w := w) (by kernel_rfl) _ _
  chk := fun em k w => run_checkKey_name em k w
  eq := fun a b w => run_equalIn_nameF 9997 a b w
  zero := fun w => Tryz.zeroValue70 w
  bits := bits_name
theorem keyDI : KeyOf Tryz.prog 167 40 3 D2.agg (.int .i64 0) where
  und := Tryz.underlying167
  find := fun k es w => run_findKey_eq (w := w) (by kernel_rfl) _ _
  chk := fun em k w => run_checkKey_dotN em 9998 k w
  eq := fun a b w => run_equalIn_dotF 9998 a b w
  zero := fun w => Tryz.zeroValue3 w
  bits := bits_dot
end Go.Proofs.YtfljhnalmiibeaaGreat

namespace Go.Proofs.YtfljhnalmiibeaaGreat
set_option maxRecDepth 100000
open Go.RowKit Go.Sort Go.Shelf
attribute [local go_sem] Oper.semAt_some
theorem grown_of_belowT {W W' : World} (h : Below W.heap.size W W') : W.grownBy W' none := ⟨h.os, h.tape, h.output, h.size, fun k hk _ => h.block k hk⟩
/-- what an iterator over a slice of parts leans on: its box, and what lay in wb -/
structure ItT (B1 : Nat) (A : Option Addr) (m c : Nat) (wb W : World) : Prop where
  b1 : Boxed W B1 70 (.slice A m c)
  bel : Below wb.heap.size wb W
theorem ItT.below {B1 : Nat} {A : Option Addr} {m c : Nat} {wb W W' : World} (h : ItT B1 A m c wb W) (hb : Below W.heap.size W W') : ItT B1 A m c wb W' :=
  ⟨(hb.block B1 h.b1.lt).trans h.b1, below_then h.bel hb⟩
theorem ItT.grown {B1 : Nat} {A : Option Addr} {m c : Nat} {wb W W' : World} {row : Option Nat} (h : ItT B1 A m c wb W) (hg : W.grownBy W' row) (h1 : some B1 ≠ row) (h3 : ∀ k, row = some k → wb.heap.size ≤ k) : ItT B1 A m c wb W' :=
  ⟨h.b1.kept hg h1, h.bel.grown hg h.bel.size h3⟩
theorem ItT.put {B1 : Nat} {A : Option Addr} {m c : Nat} {wb w : World} (hw : wb.heap.size ≤ w.heap.size) (W : World) (l : Nat) (o o' : Obj) (hl : w.heap.size ≤ l) (ho : W.heap[l]? = some o) (hc : o.isCells = false) (_ : o.isWalk = false) (h : ItT B1 A m c wb W) : ItT B1 A m c wb (W.putObj l o') :=
  h.grown (grownBy_putObj' W l o') (fun e => by cases e; rw [h.b1] at ho; cases ho; cases hc) (fun k e => by cases e; omega)
theorem valuesT_any (A : Option Addr) (n c : Nat) (w : World) : Calls Tryz.prog 176 #[.slice A n c] w fun e w' =>
    e = .returned (.func (.func 196) #[] #[.pointer (some ⟨w.heap.size, 0, none⟩)]) ∧ w' = w.alloc (.cells #[.slice A n c] 70) := by
  go_enter Tryz.func176, Tryz.ntmps176
  go_wp2
  go_ret
  exact ⟨rfl, rfl⟩
theorem itt_new (A : Option Addr) (m c : Nat) (w : World) : ItT w.heap.size A m c w (w.alloc (.cells #[.slice A m c] 70)) :=
  ⟨Boxed.new w _ _, below_new (Below.refl _ _) _⟩
theorem take_lt {L : List P11} {k : Nat} {x : P11} (hx : L[k]? = some x) : (L.take k).length < L.length := by
  have := (List.getElem?_eq_some_iff.1 hx).1
  rw [List.length_take]; omega
theorem take_stepT {L : List P11} {k : Nat} {x : P11} (hx : L[k]? = some x) : L.take k ++ [x] = L.take (k + 1) := by
  rw [List.take_add_one, hx]; rfl
set_option maxHeartbeats 3200000 in
theorem valuesT_stops (n : Nat) (hn : 2 ≤ n) (B1 : Nat) (A : Option Addr) (m c : Nat) (L : List P11) (wb w : World)
    (hrd : RdP wb A m c L) (hI : ItT B1 A m c wb w) :
    SeqStopsK Fence.wide n Tryz.prog 196 #[.pointer (some ⟨B1, 0, none⟩)] (fun x : P11 => #[x.agg])
      (fun X Y => ItT B1 A m c wb X → ItT B1 A m c wb Y) (fun ys => ys = L) (fun pre => pre <+: L) L.length w := by
  intro l J Jx W hW hJ hJx hY h0
  have HI0 := Lib.hid (hI.below hW)
  have HL := Lib.hid hrd.len
  have HRD := Lib.hid hrd; have HY := Lib.hid hY
  have hle := hrd.le
  have HJ : Hid (∀ s A B, J s A → Below A.heap.size A B → J s B) := fun s A B hs hb => hJ s A B none hs (grown_of_belowT hb) (fun r e => by cases e)
  have c1 := HI0.out.b1.cell
  have H0 := Lib.hid h0
  clear hI hrd hY hJ hJx hW h0
  refine callsIn_of_wp Tryz.func196 rfl trivial ?_ rfl
  simp only [Tryz.ntmps196, List.size_toArray, List.length_cons, List.length_nil, Nat.reduceAdd, Nat.reduceSub, Array.replicate_succ, Array.replicate_zero, List.push_toArray, List.append_toArray, List.nil_append, List.cons_append]
  gi_wp2
  gi_loopw [7] (fun i wr => ∃ (k : Nat) (pre : List P11), k ≤ m ∧ i = .int .i64 k ∧ Hid (pre = L.take k) ∧ Hid (J pre wr) ∧ Hid (ItT B1 A m c wb wr)) (fun i _ => m - (intOf i).toNat)
  case atStart => exact ⟨0, [], Nat.zero_le _, rfl, by show _ = _; simp, H0, HI0⟩
  case round =>
    obtain ⟨k, pre, hk, rfl, hpre, hJs, hIt⟩ := hrel
    by_cases hlt : k < m
    · obtain ⟨b, o, x, rfl, hb, hx, hld⟩ := HRD.out.part hlt
      obtain ⟨c0, c1, c2, c3, c4, c5, c6, c7, c8, c9, c10⟩ := hld wr hIt.out.bel
      have hlen : Hid (pre.length < L.length) := by show _ < _; rw [hpre.out]; exact take_lt hx
      have hd2 : Hid (pre ++ [x] = L.take (k + 1)) := by show _ = _; rw [hpre.out]; exact take_stepT hx
      obtain ⟨w2, hw2⟩ : ∃ w2, w2 = wr.alloc (partCells x) := ⟨_, rfl⟩
      have bb : Below wr.heap.size wr w2 := by rw [hw2]; exact below_new (Below.refl _ _) _
      have hnew : w2.heap[wr.heap.size]? = some (partCells x) := by rw [hw2]; exact heap_alloc_new _ _
      have HJ2 := Lib.hid (HJ.out _ _ _ hJs.out bb)
      have HI2 := Lib.hid (hIt.out.below bb)
      obtain ⟨n0, n1, n2, n3, n4, n5, n6, n7, n8, n9, n10⟩ := part_row hnew
      clear hld hx hnew bb
      replace hw2 := Lib.hid hw2
      gi_upto_region 3 with fail
      rw [show wr.alloc (Obj.cells #[Value.int .i64 x.v.k, .int .i64 x.v.n, .string x.v.s, .int .i64 x.d.d, .int .i64 x.d.s, .int .i64 x.i, .int .i64 x.t, .int .i64 x.a.d, .int .i64 x.a.s, .int .i64 x.j, .bool x.g] 105) = w2 from hw2.out.symm]
      clear hw2 c0 c1 c2 c3 c4 c5 c6 c7 c8 c9 c10
      obtain ⟨fn, tmps, assign, body, hy, hR⟩ := HY.out pre x w2 HJ2.out hlen.out
      clear hlen
      gi_wp2_with fail
      refine ⟨fun _ => by omega, hR.mono ?_⟩
      rintro e w4 (⟨rfl, hJ4, hk4⟩ | ⟨rfl, hJx4⟩)
      · have HI4 := Lib.hid (hk4 HI2.out)
        have HJ4 := Lib.hid hJ4
        gi_wp2_with fail
        go_roundw
        case rel => exact ⟨k + 1, pre ++ [x], by omega, by go_num, hd2, HJ4, HI4⟩
        case measure => simp [intOf]; omega
      · gi_wp2_with fail
        refine bodyPost_ret (results_none rfl _ _ _) rfl ?_
        exact ⟨⟨_, rfl⟩, .inr ⟨pre ++ [x], by rw [hd2.out]; exact List.take_prefix _ _, hJx4⟩⟩
    · have hfin : Hid (pre = L) := by
        show _ = _
        have h1 := HL.out
        rw [hpre.out, List.take_of_length_le (by omega)]
      gi_wp2_with fail
      go_end0
      exact ⟨⟨_, rfl⟩, .inl ⟨pre, hfin.out, hJs.out⟩⟩
theorem Tryz.egValuesT : ∀ args w, (callFunc 196 args).run Tryz.prog w = .ok (.enter 196 args) w := enters_of Tryz.func196 (by kernel_rfl) rfl
theorem cells_ownT {β : Type} (B b : Nat) (o : Obj) (ho : o.isCells = true) : OwnFrom B (fun (_ : β) W => W.heap[b]? = some o) := fun _ X Y row hs hg hrow => by
  refine (hg.block b (Array.getElem?_eq_some_iff.1 hs).1 (fun e' => ?_)).trans hs
  obtain ⟨_, o', ho', hc⟩ := hrow b e'.symm
  rw [hs] at ho'; cases ho'; rw [ho] at hc; cases hc
/-- a part more, behind a row of the call's own, in a round -/
theorem wpListIn_pushT {F : Fence} {n : Nat} {w W0 : World} {ops : Array Oper} {rest : List Oper} {o : Oper} {a : Act} {Q : Exit → Act → World → Prop} (hgd : o.guard = none) (s x : Operand)
    (ho : o.op = .call { callee := .builtin .append, args := #[s, x], argTypes := #[70, 70] })
    (base : Nat) (v : Value) (k : Nat) (l : List P11) (u : P11) (g : Nat) (hg : w.heap.size = g) (hx : a.eval x = .slice (some ⟨g, 0, none⟩) 1 1)
    (hs : a.eval s = v) (hown : w.ownsRow base 105 11 v k (l.flatMap P11.cells)) (hn : k < 4294967296)
    (hbel : Below base W0 w) (hbase : base ≤ w.heap.size)
    (h : ∀ v' w', w'.ownsRow base 105 11 v' (k + 1) ((l ++ [u]).flatMap P11.cells) → (w.alloc (partCells u)).grownBy w' v.ownBlock → Below base W0 w' → base ≤ w'.heap.size → wpListIn F n Tryz.prog ops Q rest (a.put o.dst v') w') :
    wpListIn F n Tryz.prog ops Q (o :: rest) a (w.alloc (partCells u)) := by
  subst hg
  obtain ⟨i0, hi0, hz0, hz1, hz2⟩ := info_parts Tryz.infoPart
  refine wpListIn_append_own _ hgd s x 70 ho base 105 i0 _ 11 96 Tryz.underlying70 hi0 hz0 hz1 hz2 rfl (by omega) v k (l.flatMap P11.cells) hs (hown.alloc _) ⟨w.heap.size, 0, none⟩ 1 1 u.cells hx rfl ?_
    (p11one u) (by simp only [maxLen]; omega) (by omega) (by simp; omega) ?_
  · intro j y hj
    rw [Addr.add_lit, Nat.zero_add, cell_row (heap_alloc_new w _)]
    simpa [P11.cells] using hj
  intro v' w' hown' hgrow _
  refine h v' w' ?_ hgrow ?_ (by have := hgrow.size; simp at this; omega)
  · rw [List.flatMap_append]
    simpa using hown'
  · exact (hbel.alloc hbase _).grown hgrow (by simp; omega) (fun k hk => (hown.lt k hk).1)
set_option maxHeartbeats 6400000 in
theorem appendSeqT_any (B1 : Nat) (A : Option Addr) (m c : Nat) (L : List P11) (wb w : World) (hrd : RdP wb A m c L) (hI : ItT B1 A m c wb w) (hn : m ≤ 4294967000) :
    Calls Tryz.prog 203 #[.slice none 0 0, .func (.func 196) #[] #[.pointer (some ⟨B1, 0, none⟩)]] w fun e w' =>
      ∃ v, e = .returned v ∧ w'.ownsRow w.heap.size 105 11 v m (L.flatMap P11.cells) ∧ Below w.heap.size w w' := by
  refine (callsIn_wide (n := 6)).1 ?_
  obtain ⟨w1, hw1⟩ : ∃ w1, w1 = w.alloc (.cells #[.slice none 0 0] 70) := ⟨_, rfl⟩
  have bb : Below w.heap.size w w1 := by rw [hw1]; exact below_new (Below.refl _ _) _
  have hbox : Boxed w1 w.heap.size 70 (.slice none 0 0) := by rw [hw1]; exact Boxed.new _ _ _
  have hs1 : w1.heap.size = w.heap.size + 1 := by rw [hw1]; simp
  have hI1 := hI.below bb
  have hwb : wb.heap.size ≤ w1.heap.size := hI1.bel.size
  have hle : L.length = m := hrd.len
  have hseq := valuesT_stops 5 (by omega) B1 A m c L wb w1 hrd hI1
  refine callsIn_of_wp_marks Tryz.func203 rfl trivial ?_ rfl
  simp only [Tryz.ntmps203, List.size_toArray, List.length_cons, List.length_nil, Nat.reduceAdd, Nat.reduceSub, Array.replicate_succ, Array.replicate_zero, List.push_toArray, List.append_toArray, List.nil_append, List.cons_append]
  gi_wp2_with fail
  rw [← hw1]
  refine wpIn_rangeFunc_ownH rfl (by omega) (gf := 196) (lb := #[.pointer (some ⟨B1, 0, none⟩)]) rfl trivial Tryz.egValuesT hseq (fun h1 h2 h => h2 (h1 h)) (fun W l o o' hl ho hc hw h => ItT.put hwb W l o o' hl ho hc hw h) (Below.refl _ _) (fun _ => rfl)
    (fun pre W => (∃ v, Boxed W w.heap.size 70 v ∧ W.ownsRow w.heap.size 105 11 v pre.length (pre.flatMap P11.cells) ∧ True) ∧ Below w.heap.size w W)
    (fun _ _ _ => False)
    (OwnFrom.and (Own.from (holdsRow_own w.heap.size w.heap.size 70 105 11 (fun pre : List P11 => pre.length) (fun pre => pre.flatMap P11.cells) (fun _ _ => True)) _) (ownFrom_below (Nat.le_refl _) (by omega)))
    (fun _ _ _ _ _ hs _ _ => hs)
    ⟨⟨_, hbox, World.ownsRow_nil _ _ _ _, trivial⟩, bb⟩
    (fun x a' W => ∃ Bx, w.heap.size < Bx ∧ W.heap[Bx]? = some (partCells x) ∧ a' = { tmps := #[.slice none 0 0, .func (.func 196) #[] #[.pointer (some ⟨B1, 0, none⟩)], .pointer (some ⟨w.heap.size, 0, none⟩), undef, .slice none 0 0, .pointer (some ⟨Bx, 0, none⟩), .func (.func 196) #[] #[.pointer (some ⟨B1, 0, none⟩)], x.agg, undef, undef, undef, undef, undef], defers := [] })
    (fun x a' => fun _ X Y row hs hg hrow => by
      obtain ⟨Bx, h1, h2, h3⟩ := hs
      exact ⟨Bx, h1, cells_ownT (β := Unit) w1.heap.size Bx _ rfl () X Y row h2 hg hrow, h3⟩) ?assign ?body ?done ?stop
  case assign =>
    rintro l pre x W K ⟨⟨v, hv, hrow, _⟩, hB⟩ hK
    gi_wp2_with fail
    refine hK _ _ ((KeepsOthers.alloc W (partCells x)).from _) (fun h => h.below (below_new (Below.refl _ _) _)) ⟨⟨v, hv.alloc _, hrow.alloc _, trivial⟩, below_new hB _⟩ ⟨W.heap.size, hv.lt, heap_alloc_new W _, rfl⟩
  case body =>
    rintro l pre x a' W hl0 hl1 ⟨⟨v, hv, hrow, _⟩, hB⟩ ⟨Bx, hBx, hx, rfl⟩ hlt
    have hc := hv.cell
    obtain ⟨m0, m1, m2, m3, m4, m5, m6, m7, m8, m9, m10⟩ := part_row hx
    gi_wp2_with (gi_at_builtin; refine wpListIn_pushT rfl _ _ rfl w.heap.size v pre.length pre x _ rfl rfl rfl hrow (by omega) hB hB.size ?_; intro v' w5 hown' hgrow B5 hs5; obtain ⟨g', cap', rfl⟩ := ownsRow_succ hown'; obtain ⟨hv1, hv2, hr2, hk2, hb2⟩ := hv.appended (by decide) hrow hB.size (Nat.le_refl _) hown' hgrow; have hc1 := hv1.cell; have hf1 := hv1.frozen)
    exact ⟨hk2.from _, fun _ => hI.below (hB.trans hb2), ⟨⟨_, hv2, by simpa using hr2, trivial⟩, hB.trans hb2⟩⟩
  case done =>
    rintro D ys W hD rfl ⟨⟨v, hv, hrow, _⟩, hB⟩ hK
    have hc := hv.cell
    gi_wp2_with fail
    refine ⟨by simp, .inl ⟨_, _, rfl, run_takeDeferred hK, ?_⟩⟩
    rw [hle] at hrow
    exact ⟨_, results_tmp rfl _ _ _, v, rfl, ownsRow_putObj hrow _ hK rfl, hB.trans (belowK_b (w := w) (Nat.le_refl _) W D _ _ (by omega) hK rfl rfl)⟩
  case stop =>
    rintro D c pre W _ _ h _
    exact h.elim
theorem collectT_any (B1 : Nat) (A : Option Addr) (m c : Nat) (L : List P11) (wb w : World) (hrd : RdP wb A m c L) (hI : ItT B1 A m c wb w) (hn : m ≤ 4294967000) :
    Calls Tryz.prog 194 #[.func (.func 196) #[] #[.pointer (some ⟨B1, 0, none⟩)]] w fun e w' =>
      ∃ v, e = .returned v ∧ w'.ownsRow w.heap.size 105 11 v m (L.flatMap P11.cells) ∧ Below w.heap.size w w' := by
  have C := Lib.hid (appendSeqT_any B1 A m c L wb w hrd hI hn)
  clear hrd hI
  go_enter Tryz.func194, Tryz.ntmps194
  go_wp2_with (go_at_call 203; refine C.out.mono ?_; rintro e w' ⟨v, rfl, h1, h2⟩)
  go_ret
  exact ⟨v, rfl, h1, h2⟩
end Go.Proofs.YtfljhnalmiibeaaGreat

