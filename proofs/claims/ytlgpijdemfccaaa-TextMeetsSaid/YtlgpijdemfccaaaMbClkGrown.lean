/- Layer 10: how two stamps stand to one another, once more: of the world nothing is told but draws and new blocks. -/
import Derived.Test.YtlgpijdemfccaaaMbClkCmp
import Derived.Test.YtlgpijdemfccaaaMbK
namespace Go.Proofs.Ytlgpijdemfccaaa
set_option maxRecDepth 100000
open Go.RowKit

set_option maxHeartbeats 800000 in
theorem clkCompareG_any (a b : S3) (w : World) : Calls Try.prog 55 #[a.agg, b.agg] w fun e w' => e = .returned (.int .i64 (cmpS a b)) ∧ Grown w w' := by
  have P := Lib.hid (fun t d q => numbers_any t d q)
  obtain ⟨t, d, q⟩ := a
  obtain ⟨u, f, r⟩ := b
  go_enter Try.func55, Try.ntmps55
  go_upto_region 1 with fail
  go_cut [5, 6] (fun s5 s6 W => ∃ gx gy : Nat, s5 = .pointer (some ⟨gx, 0, none⟩) ∧ s6 = .pointer (some ⟨gy, 0, none⟩) ∧ W.heap[gx]? = some (.cells #[.int .i64 t, .int .i64 d, .int .i64 q] 86) ∧ W.heap[gy]? = some (.cells #[.int .i64 u, .int .i64 f, .int .i64 r] 86) ∧ Grown w W)
  case first =>
    obtain ⟨w1, hw1⟩ : ∃ w1, w1 = ((w.alloc (Obj.cells #[Value.int IntKind.i64 t, Value.int IntKind.i64 d, Value.int IntKind.i64 q] 37)).alloc (Obj.cells #[Value.int IntKind.i64 u, Value.int IntKind.i64 f, Value.int IntKind.i64 r] 37)) := ⟨_, rfl⟩
    have B1 : Grown w w1 := by rw [hw1]; exact ((Grown.refl _).alloc _).alloc _
    have ca : ∀ j, w1.cell? ⟨w.heap.size, j, none⟩ = #[Value.int IntKind.i64 t, Value.int IntKind.i64 d, Value.int IntKind.i64 q][j]? := fun j => by
      refine cell_row (t := 37) (fr := (0, 0)) ?_ j
      rw [hw1, Below.heap_alloc _ _ _ (by simp)]
      exact heap_alloc_new _ _
    have cb : ∀ j, w1.cell? ⟨w.heap.size + 1, j, none⟩ = #[Value.int IntKind.i64 u, Value.int IntKind.i64 f, Value.int IntKind.i64 r][j]? := fun j => by
      refine cell_row (t := 37) (fr := (0, 0)) ?_ j
      rw [hw1]
      exact heap_at (by simp)
    rw [← hw1]
    have c0 := ca 0; have c1 := ca 1; have c2 := ca 2
    have d0 := cb 0; have d1 := cb 1; have d2 := cb 2
    simp only [List.getElem?_toArray, List.getElem?_cons_zero, List.getElem?_cons_succ] at c0 c1 c2 d0 d1 d2
    clear ca cb hw1
    have K : Hid (∀ W, Below w1.heap.size w1 W → W.cell? ⟨w.heap.size, 0, none⟩ = some (.int .i64 t) ∧ W.cell? ⟨w.heap.size, 1, none⟩ = some (.int .i64 d) ∧ W.cell? ⟨w.heap.size, 2, none⟩ = some (.int .i64 q) ∧ W.cell? ⟨w.heap.size + 1, 0, none⟩ = some (.int .i64 u) ∧ W.cell? ⟨w.heap.size + 1, 1, none⟩ = some (.int .i64 f) ∧ W.cell? ⟨w.heap.size + 1, 2, none⟩ = some (.int .i64 r)) := by
      intro W hW
      have ha := block_lt_of_cell c0
      have hb := block_lt_of_cell d0
      have h1 : ∀ p : Addr, p.block < w1.heap.size → W.cell? p = w1.cell? p := fun p hp => hW.cell hp
      exact ⟨(h1 ⟨_, 0, none⟩ ha).trans c0, (h1 ⟨_, 1, none⟩ ha).trans c1, (h1 ⟨_, 2, none⟩ ha).trans c2, (h1 ⟨_, 0, none⟩ hb).trans d0, (h1 ⟨_, 1, none⟩ hb).trans d1, (h1 ⟨_, 2, none⟩ hb).trans d2⟩
    go_wp2_with fail
    go_region_held3 (fun W => W.cell? ⟨w.heap.size, 0, none⟩ = some (.int .i64 t) ∧ W.cell? ⟨w.heap.size, 1, none⟩ = some (.int .i64 d) ∧ W.cell? ⟨w.heap.size, 2, none⟩ = some (.int .i64 q) ∧ W.cell? ⟨w.heap.size + 1, 0, none⟩ = some (.int .i64 u) ∧ W.cell? ⟨w.heap.size + 1, 1, none⟩ = some (.int .i64 f) ∧ W.cell? ⟨w.heap.size + 1, 2, none⟩ = some (.int .i64 r))
      (first | (refine K.out _ ?_; repeat (first | exact Below.refl _ _ | refine below_new ?_ _ | refine Below.drew ?_)))
      (first
        | (go_at_call 60; refine (P.out _ _ _ _).mono ?_; rintro e wx ⟨rfl, rfl⟩))
    all_goals
      go_wp2_with fail
      go_meet
      refine ⟨_, _, rfl, rfl, ?_, ?_, B1.trans ?_⟩
      · repeat (first | (refine heap_at ?_; (try simp only [World.size_alloc]); first | done | omega) | refine heap_drew ?_ | (refine heap_past ?_ ?_; focus ((try simp only [World.size_alloc]); first | done | omega)))
      · repeat (first | (refine heap_at ?_; (try simp only [World.size_alloc]); first | done | omega) | refine heap_drew ?_ | (refine heap_past ?_ ?_; focus ((try simp only [World.size_alloc]); first | done | omega)))
      · repeat (first | exact Grown.refl _ | refine Grown.alloc ?_ _ | refine Grown.drew ?_)
  case rest =>
    obtain ⟨gx, gy, rfl, rfl, hx, hy, hbel⟩ := hcut
    have x0 := cell_row hx 0; have x1 := cell_row hx 1; have x2 := cell_row hx 2
    have y0 := cell_row hy 0; have y1 := cell_row hy 1; have y2 := cell_row hy 2
    simp only [List.getElem?_toArray, List.getElem?_cons_zero, List.getElem?_cons_succ] at x0 x1 x2 y0 y1 y2
    have HX := Lib.hid hx; have HY := Lib.hid hy
    clear hx hy
    have EQ := run_equalIn_arr3 t d q u f r wc
    have PC := Lib.hid (fun x y => cmpCompareC_any x y)
    rcases Decidable.em (t = u) with rfl | h0
    rotate_left
    · have hne : (t == u) = false := by simpa using h0
      rw [show (t == u && d == f && q == r) = false by simp [hne]] at EQ
      have HR := Lib.hid (show cmpS ⟨t, d, q⟩ ⟨u, f, r⟩ = cmpI t u by simp [cmpS, h0])
      clear h0 HX HY
      go_wp2_with fail
      clear EQ
      go_loopw [7] (fun i wr => ∃ k : Nat, k ≤ 0 ∧ i = .int .i64 k ∧ Grown w wr ∧ wr.cell? ⟨gx, 0, none⟩ = some (.int .i64 t) ∧ wr.cell? ⟨gx, 1, none⟩ = some (.int .i64 d) ∧ wr.cell? ⟨gx, 2, none⟩ = some (.int .i64 q) ∧ wr.cell? ⟨gy, 0, none⟩ = some (.int .i64 u) ∧ wr.cell? ⟨gy, 1, none⟩ = some (.int .i64 f) ∧ wr.cell? ⟨gy, 2, none⟩ = some (.int .i64 r)) (fun i _ => 0 - (intOf i).toNat)
      case atStart => exact ⟨0, by omega, rfl, hbel, x0, x1, x2, y0, y1, y2⟩
      case round =>
        clear x0 x1 x2 y0 y1 y2 hbel
        obtain ⟨k, hk, rfl, hbel, x0, x1, x2, y0, y1, y2⟩ := hrel
        obtain rfl : k = 0 := by omega
        clear hk
        go_wp2
        go_quiet (fail)
        have hbel2 := hbel.drewN nq
        replace x0 : (wr.drewN nq).cell? _ = _ := x0
        replace x1 : (wr.drewN nq).cell? _ = _ := x1
        replace x2 : (wr.drewN nq).cell? _ = _ := x2
        replace y0 : (wr.drewN nq).cell? _ = _ := y0
        replace y1 : (wr.drewN nq).cell? _ = _ := y1
        replace y2 : (wr.drewN nq).cell? _ = _ := y2
        generalize wr.drewN nq = w3 at hbel2 x0 x1 x2 y0 y1 y2 ⊢
        go_wp2_with fail
        have hb3 := hbel2.drew
        go_region_held3 (fun W => Grown w W ∧ W.cell? ⟨gx, 0, none⟩ = some (.int .i64 t) ∧ W.cell? ⟨gx, 1, none⟩ = some (.int .i64 d) ∧ W.cell? ⟨gx, 2, none⟩ = some (.int .i64 q) ∧ W.cell? ⟨gy, 0, none⟩ = some (.int .i64 u) ∧ W.cell? ⟨gy, 1, none⟩ = some (.int .i64 f) ∧ W.cell? ⟨gy, 2, none⟩ = some (.int .i64 r))
          (first
            | (go_split_ands
               refine ⟨?_, ?_, ?_, ?_, ?_, ?_, ?_⟩
               all_goals assumption)
            | (go_split_ands
               refine ⟨?_, ?_, ?_, ?_, ?_, ?_, ?_⟩
               · exact Grown.drew (by assumption)
               all_goals (show World.cell? _ _ = _; assumption)))
          (first
            | (go_at_call 59; refine (PC.out _ _ _).mono ?_; rintro e wx ⟨rfl, rfl⟩))
        all_goals
          go_wp2
          go_ret
          go_split_ands
          exact ⟨by rw [HR.out]; rfl, by assumption⟩
    rcases Decidable.em (d = f) with rfl | h1
    rotate_left
    · have hne : (d == f) = false := by simpa using h1
      rw [show (t == t && d == f && q == r) = false by simp [hne]] at EQ
      have HR := Lib.hid (show cmpS ⟨t, d, q⟩ ⟨t, f, r⟩ = cmpI d f by simp [cmpS, h1])
      clear h1 HX HY
      go_wp2_with fail
      clear EQ
      go_loopw [7] (fun i wr => ∃ k : Nat, k ≤ 1 ∧ i = .int .i64 k ∧ Grown w wr ∧ wr.cell? ⟨gx, 0, none⟩ = some (.int .i64 t) ∧ wr.cell? ⟨gx, 1, none⟩ = some (.int .i64 d) ∧ wr.cell? ⟨gx, 2, none⟩ = some (.int .i64 q) ∧ wr.cell? ⟨gy, 0, none⟩ = some (.int .i64 t) ∧ wr.cell? ⟨gy, 1, none⟩ = some (.int .i64 f) ∧ wr.cell? ⟨gy, 2, none⟩ = some (.int .i64 r)) (fun i _ => 1 - (intOf i).toNat)
      case atStart => exact ⟨0, by omega, rfl, hbel, x0, x1, x2, y0, y1, y2⟩
      case round =>
        clear x0 x1 x2 y0 y1 y2 hbel
        obtain ⟨k, hk, rfl, hbel, x0, x1, x2, y0, y1, y2⟩ := hrel
        obtain rfl | rfl : k = 0 ∨ k = 1 := by omega
        · clear hk
          go_wp2
          go_quiet (fail)
          have hbel2 := hbel.drewN nq
          replace x0 : (wr.drewN nq).cell? _ = _ := x0
          replace x1 : (wr.drewN nq).cell? _ = _ := x1
          replace x2 : (wr.drewN nq).cell? _ = _ := x2
          replace y0 : (wr.drewN nq).cell? _ = _ := y0
          replace y1 : (wr.drewN nq).cell? _ = _ := y1
          replace y2 : (wr.drewN nq).cell? _ = _ := y2
          generalize wr.drewN nq = w3 at hbel2 x0 x1 x2 y0 y1 y2 ⊢
          go_wp2
          exact ⟨⟨1, by omega, by go_num, hbel2, x0, x1, x2, y0, y1, y2⟩, by simp [intOf]⟩
        · clear hk
          go_wp2
          go_quiet (fail)
          have hbel2 := hbel.drewN nq
          replace x0 : (wr.drewN nq).cell? _ = _ := x0
          replace x1 : (wr.drewN nq).cell? _ = _ := x1
          replace x2 : (wr.drewN nq).cell? _ = _ := x2
          replace y0 : (wr.drewN nq).cell? _ = _ := y0
          replace y1 : (wr.drewN nq).cell? _ = _ := y1
          replace y2 : (wr.drewN nq).cell? _ = _ := y2
          generalize wr.drewN nq = w3 at hbel2 x0 x1 x2 y0 y1 y2 ⊢
          go_wp2_with fail
          have hb3 := hbel2.drew
          go_region_held3 (fun W => Grown w W ∧ W.cell? ⟨gx, 0, none⟩ = some (.int .i64 t) ∧ W.cell? ⟨gx, 1, none⟩ = some (.int .i64 d) ∧ W.cell? ⟨gx, 2, none⟩ = some (.int .i64 q) ∧ W.cell? ⟨gy, 0, none⟩ = some (.int .i64 t) ∧ W.cell? ⟨gy, 1, none⟩ = some (.int .i64 f) ∧ W.cell? ⟨gy, 2, none⟩ = some (.int .i64 r))
            (first
              | (go_split_ands
                 refine ⟨?_, ?_, ?_, ?_, ?_, ?_, ?_⟩
                 all_goals assumption)
              | (go_split_ands
                 refine ⟨?_, ?_, ?_, ?_, ?_, ?_, ?_⟩
                 · exact Grown.drew (by assumption)
                 all_goals (show World.cell? _ _ = _; assumption)))
            (first
              | (go_at_call 59; refine (PC.out _ _ _).mono ?_; rintro e wx ⟨rfl, rfl⟩))
          all_goals
            go_wp2
            go_ret
            go_split_ands
            exact ⟨by rw [HR.out]; rfl, by assumption⟩
    rcases Decidable.em (q = r) with rfl | h2
    rotate_left
    · have hne : (q == r) = false := by simpa using h2
      rw [show (t == t && d == d && q == r) = false by simp [hne]] at EQ
      have HR := Lib.hid (show cmpS ⟨t, d, q⟩ ⟨t, d, r⟩ = cmpI q r by simp [cmpS])
      clear h2 HX HY
      go_wp2_with fail
      clear EQ
      go_loopw [7] (fun i wr => ∃ k : Nat, k ≤ 2 ∧ i = .int .i64 k ∧ Grown w wr ∧ wr.cell? ⟨gx, 0, none⟩ = some (.int .i64 t) ∧ wr.cell? ⟨gx, 1, none⟩ = some (.int .i64 d) ∧ wr.cell? ⟨gx, 2, none⟩ = some (.int .i64 q) ∧ wr.cell? ⟨gy, 0, none⟩ = some (.int .i64 t) ∧ wr.cell? ⟨gy, 1, none⟩ = some (.int .i64 d) ∧ wr.cell? ⟨gy, 2, none⟩ = some (.int .i64 r)) (fun i _ => 2 - (intOf i).toNat)
      case atStart => exact ⟨0, by omega, rfl, hbel, x0, x1, x2, y0, y1, y2⟩
      case round =>
        clear x0 x1 x2 y0 y1 y2 hbel
        obtain ⟨k, hk, rfl, hbel, x0, x1, x2, y0, y1, y2⟩ := hrel
        obtain rfl | rfl | rfl : k = 0 ∨ k = 1 ∨ k = 2 := by omega
        · clear hk
          go_wp2
          go_quiet (fail)
          have hbel2 := hbel.drewN nq
          replace x0 : (wr.drewN nq).cell? _ = _ := x0
          replace x1 : (wr.drewN nq).cell? _ = _ := x1
          replace x2 : (wr.drewN nq).cell? _ = _ := x2
          replace y0 : (wr.drewN nq).cell? _ = _ := y0
          replace y1 : (wr.drewN nq).cell? _ = _ := y1
          replace y2 : (wr.drewN nq).cell? _ = _ := y2
          generalize wr.drewN nq = w3 at hbel2 x0 x1 x2 y0 y1 y2 ⊢
          go_wp2
          exact ⟨⟨1, by omega, by go_num, hbel2, x0, x1, x2, y0, y1, y2⟩, by simp [intOf]⟩
        · clear hk
          go_wp2
          go_quiet (fail)
          have hbel2 := hbel.drewN nq
          replace x0 : (wr.drewN nq).cell? _ = _ := x0
          replace x1 : (wr.drewN nq).cell? _ = _ := x1
          replace x2 : (wr.drewN nq).cell? _ = _ := x2
          replace y0 : (wr.drewN nq).cell? _ = _ := y0
          replace y1 : (wr.drewN nq).cell? _ = _ := y1
          replace y2 : (wr.drewN nq).cell? _ = _ := y2
          generalize wr.drewN nq = w3 at hbel2 x0 x1 x2 y0 y1 y2 ⊢
          go_wp2
          exact ⟨⟨2, by omega, by go_num, hbel2, x0, x1, x2, y0, y1, y2⟩, by simp [intOf]⟩
        · clear hk
          go_wp2
          go_quiet (fail)
          have hbel2 := hbel.drewN nq
          replace x0 : (wr.drewN nq).cell? _ = _ := x0
          replace x1 : (wr.drewN nq).cell? _ = _ := x1
          replace x2 : (wr.drewN nq).cell? _ = _ := x2
          replace y0 : (wr.drewN nq).cell? _ = _ := y0
          replace y1 : (wr.drewN nq).cell? _ = _ := y1
          replace y2 : (wr.drewN nq).cell? _ = _ := y2
          generalize wr.drewN nq = w3 at hbel2 x0 x1 x2 y0 y1 y2 ⊢
          go_wp2_with fail
          have hb3 := hbel2.drew
          go_region_held3 (fun W => Grown w W ∧ W.cell? ⟨gx, 0, none⟩ = some (.int .i64 t) ∧ W.cell? ⟨gx, 1, none⟩ = some (.int .i64 d) ∧ W.cell? ⟨gx, 2, none⟩ = some (.int .i64 q) ∧ W.cell? ⟨gy, 0, none⟩ = some (.int .i64 t) ∧ W.cell? ⟨gy, 1, none⟩ = some (.int .i64 d) ∧ W.cell? ⟨gy, 2, none⟩ = some (.int .i64 r))
            (first
              | (go_split_ands
                 refine ⟨?_, ?_, ?_, ?_, ?_, ?_, ?_⟩
                 all_goals assumption)
              | (go_split_ands
                 refine ⟨?_, ?_, ?_, ?_, ?_, ?_, ?_⟩
                 · exact Grown.drew (by assumption)
                 all_goals (show World.cell? _ _ = _; assumption)))
            (first
              | (go_at_call 59; refine (PC.out _ _ _).mono ?_; rintro e wx ⟨rfl, rfl⟩))
          all_goals
            go_wp2
            go_ret
            go_split_ands
            exact ⟨by rw [HR.out]; rfl, by assumption⟩
    rw [show (t == t && d == d && q == q) = true by simp] at EQ
    have HR := Lib.hid (cmpS_self ⟨t, d, q⟩)
    go_wp2
    go_ret
    exact ⟨by rw [HR.out]; rfl, hbel⟩

theorem clkLessG_any (a b : S3) (w : World) : Calls Try.prog 48 #[a.agg, b.agg] w fun e w' => e = .returned (.bool (lessS a b)) ∧ Grown w w' := by
  have P := Lib.hid (fun W => clkCompareG_any a b W)
  have hr := Lib.hid (cmpS_less a b)
  obtain ⟨t, d, q⟩ := a
  obtain ⟨u, f, r⟩ := b
  obtain ⟨c, hc⟩ : ∃ c, Hid (c = cmpS ⟨t, d, q⟩ ⟨u, f, r⟩) := ⟨_, rfl⟩
  rw [← hc.out] at P hr
  clear hc
  go_enter Try.func48, Try.ntmps48
  go_wp2_with fail
  have B1 := ((Grown.refl w).alloc (Obj.cells #[.int .i64 t, .int .i64 d, .int .i64 q] 37)).alloc (Obj.cells #[.int .i64 u, .int .i64 f, .int .i64 r] 37)
  refine (P.out _).mono ?_
  rintro e w2 ⟨rfl, bb⟩
  have B2 := B1.trans bb
  go_wp2
  go_ret
  exact ⟨ret_bool (by rw [← hr.out]), B2⟩
end Go.Proofs.Ytlgpijdemfccaaa

