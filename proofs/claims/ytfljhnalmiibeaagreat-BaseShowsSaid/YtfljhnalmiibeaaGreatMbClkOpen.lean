/- Several texts laid together: ClkOpen, TxtCmp, TxtCmp2. -/
import Derived.Test.YtfljhnalmiibeaaGreatMbStruct
import Derived.Test.YtfljhnalmiibeaaGreatMbBagSorted
import Derived.Test.YtfljhnalmiibeaaGreatMbMem
import Derived.Test.YtfljhnalmiibeaaGreatMbClkGrown
namespace Go.Proofs.YtfljhnalmiibeaaGreat
set_option maxRecDepth 100000
open Go.ChangeShapes Go.WideShapes Go.ChangeAt Go.RowKit
theorem fieldsStamp : (Tryz.prog.fieldsOf 188).toList = [{ name := "Time", type := 3, offset := 0, embedded := false, tag := "", pkgPath := "", byteOffset := 0 }, { name := "Dev", type := 3, offset := 1, embedded := false, tag := "", pkgPath := "", byteOffset := 8 },
    { name := "Seq", type := 3, offset := 2, embedded := false, tag := "", pkgPath := "", byteOffset := 16 }] := by kernel_rfl
theorem run_equalIn_stamp (a b c x y z : Int) (W : World) :
    (Op.equalIn 10000 188 (.agg #[.int .i64 a, .int .i64 b, .int .i64 c]) (.agg #[.int .i64 x, .int .i64 y, .int .i64 z])).run Tryz.prog W = .ok (decide ((⟨a, b, c⟩ : S3) = ⟨x, y, z⟩)) W := by
  have ht : Tryz.prog.underlying 188 = some (.struct (Tryz.prog.fieldsOf 188)) := by kernel_rfl
  have hp : Tryz.prog.stoodInHeld 188 = false := by kernel_rfl
  have p0 : ∀ a b c : Value, (part 3 #[a, b, c] 0).run Tryz.prog W = .ok a W := fun _ _ _ => rfl
  have p1 : ∀ a b c : Value, (part 3 #[a, b, c] 1).run Tryz.prog W = .ok b W := fun _ _ _ => rfl
  have p2 : ∀ a b c : Value, (part 3 #[a, b, c] 2).run Tryz.prog W = .ok c W := fun _ _ _ => rfl
  have q0 : ∀ a b : Int, (Op.equalIn 9999 3 (.int .i64 a) (.int .i64 b)).run Tryz.prog W = .ok (a == b) W := fun a b => run_equalIn_int W 9998 _ _ _ a b Tryz.underlying3
  rw [show (10000 : Nat) = 9999 + 1 from rfl, run_equalIn_struct W 9999 _ _ _ ht hp, fieldsStamp]
  generalize hP : Tryz.prog = P at p0 p1 p2 q0 ⊢
  simp only [Op.eqFields]
  rw [if_pos (by decide), if_pos (by decide), if_pos (by decide)]
  simp only [Sem.run_bind, p0, q0, Result.andThen]
  rcases Decidable.em (a = x) with rfl | hk <;> rcases Decidable.em (b = y) with rfl | hn <;> rcases Decidable.em (c = z) with rfl | hs
  all_goals simp [*, Sem.run_bind, Result.andThen]
end Go.Proofs.YtfljhnalmiibeaaGreat

namespace Go.Proofs.YtfljhnalmiibeaaGreat
set_option maxRecDepth 100000
open Go.RowKit
set_option maxHeartbeats 3200000 in
theorem older_any (p q : P11) (w : World) : Calls Tryz.prog 147 #[p.agg, q.agg] w fun e w' => e = .returned (.bool (older p q)) ∧ Grown w w' := by
  obtain ⟨F, hF⟩ : ∃ F, Hid (older p q = F) := ⟨_, rfl⟩
  rw [hF.out]
  have hF2 : Hid ((lessS (stP p) (stP q) || (decide (stP p = stP q) && decide (p.i < q.i))) = F) := hF.out
  clear hF
  have P := Lib.hid (fun x W => stampOf_is x W)
  have L := Lib.hid (fun a b W => clkLessG_any a b W)
  obtain ⟨w1, hw1⟩ : ∃ w1, w1 = (w.alloc (partCells p)).alloc (partCells q) := ⟨_, rfl⟩
  have B1 : Hid (Grown w w1) := by rw [hw1]; exact ((Grown.refl _).alloc _).alloc _
  have rp : w1.heap[w.heap.size]? = some (partCells p) := by rw [hw1]; exact heap_past (by simp) (heap_alloc_new _ _)
  have rq : w1.heap[w.heap.size + 1]? = some (partCells q) := by rw [hw1]; exact heap_at (by simp)
  have K : Hid (∀ W, Below w1.heap.size w1 W → W.cell? ⟨w.heap.size, 0, none⟩ = some (.int .i64 p.v.k) ∧ W.cell? ⟨w.heap.size, 1, none⟩ = some (.int .i64 p.v.n) ∧ W.cell? ⟨w.heap.size, 2, none⟩ = some (.string p.v.s) ∧ W.cell? ⟨w.heap.size, 3, none⟩ = some (.int .i64 p.d.d) ∧ W.cell? ⟨w.heap.size, 4, none⟩ = some (.int .i64 p.d.s) ∧ W.cell? ⟨w.heap.size, 5, none⟩ = some (.int .i64 p.i) ∧ W.cell? ⟨w.heap.size, 6, none⟩ = some (.int .i64 p.t) ∧ W.cell? ⟨w.heap.size, 7, none⟩ = some (.int .i64 p.a.d) ∧ W.cell? ⟨w.heap.size, 8, none⟩ = some (.int .i64 p.a.s) ∧ W.cell? ⟨w.heap.size, 9, none⟩ = some (.int .i64 p.j) ∧ W.cell? ⟨w.heap.size, 10, none⟩ = some (.bool p.g) ∧ W.cell? ⟨w.heap.size + 1, 0, none⟩ = some (.int .i64 q.v.k) ∧ W.cell? ⟨w.heap.size + 1, 1, none⟩ = some (.int .i64 q.v.n) ∧ W.cell? ⟨w.heap.size + 1, 2, none⟩ = some (.string q.v.s) ∧ W.cell? ⟨w.heap.size + 1, 3, none⟩ = some (.int .i64 q.d.d) ∧ W.cell? ⟨w.heap.size + 1, 4, none⟩ = some (.int .i64 q.d.s) ∧ W.cell? ⟨w.heap.size + 1, 5, none⟩ = some (.int .i64 q.i) ∧ W.cell? ⟨w.heap.size + 1, 6, none⟩ = some (.int .i64 q.t) ∧ W.cell? ⟨w.heap.size + 1, 7, none⟩ = some (.int .i64 q.a.d) ∧ W.cell? ⟨w.heap.size + 1, 8, none⟩ = some (.int .i64 q.a.s) ∧ W.cell? ⟨w.heap.size + 1, 9, none⟩ = some (.int .i64 q.j) ∧ W.cell? ⟨w.heap.size + 1, 10, none⟩ = some (.bool q.g)) := by
    intro W hW
    obtain ⟨a0, a1, a2, a3, a4, a5, a6, a7, a8, a9, a10⟩ := part_row (row_below rp hW)
    obtain ⟨b0, b1, b2, b3, b4, b5, b6, b7, b8, b9, b10⟩ := part_row (row_below rq hW)
    exact ⟨a0, a1, a2, a3, a4, a5, a6, a7, a8, a9, a10, b0, b1, b2, b3, b4, b5, b6, b7, b8, b9, b10⟩
  have HP := Lib.hid rp; have HQ := Lib.hid rq
  obtain ⟨a0, a1, a2, a3, a4, a5, a6, a7, a8, a9, a10⟩ := part_row rp
  obtain ⟨b0, b1, b2, b3, b4, b5, b6, b7, b8, b9, b10⟩ := part_row rq
  clear rp rq
  go_enter Tryz.func147, Tryz.ntmps147
  go_upto_region 1 with fail
  rw [show (w.alloc (partCells p)).alloc (partCells q) = w1 from hw1.symm]
  clear hw1
  go_cut [5, 6] (fun s5 s6 W => ∃ gx gy : Nat, s5 = .pointer (some ⟨gx, 0, none⟩) ∧ s6 = .pointer (some ⟨gy, 0, none⟩) ∧ W.heap[gx]? = some (stampRow (stP p)) ∧ W.heap[gy]? = some (stampRow (stP q)) ∧ Grown w1 W)
  case first =>
    go_region_held3 (fun W => W.cell? ⟨w.heap.size, 0, none⟩ = some (.int .i64 p.v.k) ∧ W.cell? ⟨w.heap.size, 1, none⟩ = some (.int .i64 p.v.n) ∧ W.cell? ⟨w.heap.size, 2, none⟩ = some (.string p.v.s) ∧ W.cell? ⟨w.heap.size, 3, none⟩ = some (.int .i64 p.d.d) ∧ W.cell? ⟨w.heap.size, 4, none⟩ = some (.int .i64 p.d.s) ∧ W.cell? ⟨w.heap.size, 5, none⟩ = some (.int .i64 p.i) ∧ W.cell? ⟨w.heap.size, 6, none⟩ = some (.int .i64 p.t) ∧ W.cell? ⟨w.heap.size, 7, none⟩ = some (.int .i64 p.a.d) ∧ W.cell? ⟨w.heap.size, 8, none⟩ = some (.int .i64 p.a.s) ∧ W.cell? ⟨w.heap.size, 9, none⟩ = some (.int .i64 p.j) ∧ W.cell? ⟨w.heap.size, 10, none⟩ = some (.bool p.g) ∧ W.cell? ⟨w.heap.size + 1, 0, none⟩ = some (.int .i64 q.v.k) ∧ W.cell? ⟨w.heap.size + 1, 1, none⟩ = some (.int .i64 q.v.n) ∧ W.cell? ⟨w.heap.size + 1, 2, none⟩ = some (.string q.v.s) ∧ W.cell? ⟨w.heap.size + 1, 3, none⟩ = some (.int .i64 q.d.d) ∧ W.cell? ⟨w.heap.size + 1, 4, none⟩ = some (.int .i64 q.d.s) ∧ W.cell? ⟨w.heap.size + 1, 5, none⟩ = some (.int .i64 q.i) ∧ W.cell? ⟨w.heap.size + 1, 6, none⟩ = some (.int .i64 q.t) ∧ W.cell? ⟨w.heap.size + 1, 7, none⟩ = some (.int .i64 q.a.d) ∧ W.cell? ⟨w.heap.size + 1, 8, none⟩ = some (.int .i64 q.a.s) ∧ W.cell? ⟨w.heap.size + 1, 9, none⟩ = some (.int .i64 q.j) ∧ W.cell? ⟨w.heap.size + 1, 10, none⟩ = some (.bool q.g))
      (first | (refine K.out _ ?_; repeat (first | exact Below.refl _ _ | refine below_new ?_ _ | refine Below.drew ?_)))
      (first
        | (go_at_call 173; refine (P.out _ _).mono ?_; rintro e wx ⟨rfl, rfl⟩))
    all_goals
      go_wp2_with fail
      go_meet
      refine ⟨_, _, rfl, rfl, ?_, ?_, ?_⟩
      · repeat (first | (refine heap_at ?_; (try simp only [World.size_alloc]); first | done | omega) | refine heap_drew ?_ | (refine heap_past ?_ ?_; focus ((try simp only [World.size_alloc]); first | done | omega)))
      · repeat (first | (refine heap_at ?_; (try simp only [World.size_alloc]); first | done | omega) | refine heap_drew ?_ | (refine heap_past ?_ ?_; focus ((try simp only [World.size_alloc]); first | done | omega)))
      · repeat (first | exact Grown.refl _ | refine Grown.alloc ?_ _ | refine Grown.drew ?_)
  case rest =>
    obtain ⟨gx, gy, rfl, rfl, hx, hy, hbel⟩ := hcut
    clear a0 a1 a2 a3 a4 a5 a6 a7 a8 a9 a10 b0 b1 b2 b3 b4 b5 b6 b7 b8 b9 b10 P
    generalize stP p = s1 at hx hF2
    generalize stP q = s2 at hy hF2
    obtain ⟨x0, x1, x2⟩ := stamp_at hx
    obtain ⟨y0, y1, y2⟩ := stamp_at hy
    have HX := Lib.hid hx; have HY := Lib.hid hy
    obtain ⟨rr, hrr, C⟩ : ∃ rr, Hid (lessS s1 s2 = rr) ∧ Hid (Calls Tryz.prog 174 #[s1.agg, s2.agg] wc fun e w' => e = .returned (.bool rr) ∧ Grown wc w') := ⟨_, rfl, L.out _ _ wc⟩
    obtain ⟨qb, hqb⟩ : ∃ qb, Hid (decide (s1 = s2) = qb) := ⟨_, rfl⟩
    have EQ : ∀ W, (Op.equalIn 10000 188 (.agg #[.int .i64 s1.t, .int .i64 s1.d, .int .i64 s1.q]) (.agg #[.int .i64 s2.t, .int .i64 s2.d, .int .i64 s2.q])).run Tryz.prog W = .ok qb W := fun W => by rw [← hqb.out]; exact run_equalIn_stamp _ _ _ _ _ _ W
    have hF3 : Hid ((rr || (qb && decide (p.i < q.i))) = F) := by show _ = _; rw [← hrr.out, ← hqb.out]; exact hF2.out
    have HB := Lib.hid hbel
    clear hx hy hbel hF2 L
    go_wp2_with fail
    refine C.out.mono ?_
    rintro e w3 ⟨rfl, g3⟩
    have HB3 := Lib.hid (HB.out.trans g3)
    obtain ⟨x0, x1, x2⟩ := stamp_at (row_below HX.out g3.below)
    obtain ⟨y0, y1, y2⟩ := stamp_at (row_below HY.out g3.below)
    obtain ⟨a0, a1, a2, a3, a4, a5, a6, a7, a8, a9, a10⟩ := part_row (row_below HP.out HB3.out.below)
    obtain ⟨b0, b1, b2, b3, b4, b5, b6, b7, b8, b9, b10⟩ := part_row (row_below HQ.out HB3.out.below)
    clear C g3
    cases rr with
    | true =>
      have hF4 : Hid (true = F) := by show _ = _; rw [← hF3.out, Bool.true_or]
      go_wp2_with fail
      go_ret
      exact ⟨ret_bool hF4.out, B1.out.trans HB3.out⟩
    | false =>
      cases qb with
      | false =>
        have hF4 : Hid (false = F) := by show _ = _; rw [← hF3.out]; rfl
        go_wp2_with fail
        go_ret
        exact ⟨ret_bool hF4.out, B1.out.trans HB3.out⟩
      | true =>
        have hF4 : Hid (decide (p.i < q.i) = F) := by show _ = _; rw [← hF3.out]; simp
        go_wp2_with fail
        all_goals go_ret
        all_goals exact ⟨ret_bool hF4.out, B1.out.trans HB3.out⟩
end Go.Proofs.YtfljhnalmiibeaaGreat

namespace Go.Proofs.YtfljhnalmiibeaaGreat
set_option maxRecDepth 100000
open Go.RowKit
set_option maxHeartbeats 3200000 in
theorem txtCompare_any (p q : P11) (w : World) : Calls Tryz.prog 177 #[p.agg, q.agg] w fun e w' => e = .returned (.int .i64 (cmpT p q)) ∧ Grown w w' := by
  obtain ⟨F, hF⟩ : ∃ F, Hid (cmpT p q = F) := ⟨_, rfl⟩
  rw [hF.out]
  have hF2 : Hid ((if lessS (stP q) (stP p) = true then -1 else if lessS (stP p) (stP q) = true then 1 else cmpI p.i q.i) = F) := hF.out
  clear hF
  have P := Lib.hid (fun x W => stampOf_is x W)
  have L := Lib.hid (fun a b W => clkLessG_any a b W)
  obtain ⟨w1, hw1⟩ : ∃ w1, w1 = (w.alloc (partCells p)).alloc (partCells q) := ⟨_, rfl⟩
  have B1 : Hid (Grown w w1) := by rw [hw1]; exact ((Grown.refl _).alloc _).alloc _
  have rp : w1.heap[w.heap.size]? = some (partCells p) := by rw [hw1]; exact heap_past (by simp) (heap_alloc_new _ _)
  have rq : w1.heap[w.heap.size + 1]? = some (partCells q) := by rw [hw1]; exact heap_at (by simp)
  have K : Hid (∀ W, Below w1.heap.size w1 W → W.cell? ⟨w.heap.size, 0, none⟩ = some (.int .i64 p.v.k) ∧ W.cell? ⟨w.heap.size, 1, none⟩ = some (.int .i64 p.v.n) ∧ W.cell? ⟨w.heap.size, 2, none⟩ = some (.string p.v.s) ∧ W.cell? ⟨w.heap.size, 3, none⟩ = some (.int .i64 p.d.d) ∧ W.cell? ⟨w.heap.size, 4, none⟩ = some (.int .i64 p.d.s) ∧ W.cell? ⟨w.heap.size, 5, none⟩ = some (.int .i64 p.i) ∧ W.cell? ⟨w.heap.size, 6, none⟩ = some (.int .i64 p.t) ∧ W.cell? ⟨w.heap.size, 7, none⟩ = some (.int .i64 p.a.d) ∧ W.cell? ⟨w.heap.size, 8, none⟩ = some (.int .i64 p.a.s) ∧ W.cell? ⟨w.heap.size, 9, none⟩ = some (.int .i64 p.j) ∧ W.cell? ⟨w.heap.size, 10, none⟩ = some (.bool p.g) ∧ W.cell? ⟨w.heap.size + 1, 0, none⟩ = some (.int .i64 q.v.k) ∧ W.cell? ⟨w.heap.size + 1, 1, none⟩ = some (.int .i64 q.v.n) ∧ W.cell? ⟨w.heap.size + 1, 2, none⟩ = some (.string q.v.s) ∧ W.cell? ⟨w.heap.size + 1, 3, none⟩ = some (.int .i64 q.d.d) ∧ W.cell? ⟨w.heap.size + 1, 4, none⟩ = some (.int .i64 q.d.s) ∧ W.cell? ⟨w.heap.size + 1, 5, none⟩ = some (.int .i64 q.i) ∧ W.cell? ⟨w.heap.size + 1, 6, none⟩ = some (.int .i64 q.t) ∧ W.cell? ⟨w.heap.size + 1, 7, none⟩ = some (.int .i64 q.a.d) ∧ W.cell? ⟨w.heap.size + 1, 8, none⟩ = some (.int .i64 q.a.s) ∧ W.cell? ⟨w.heap.size + 1, 9, none⟩ = some (.int .i64 q.j) ∧ W.cell? ⟨w.heap.size + 1, 10, none⟩ = some (.bool q.g)) := by
    intro W hW
    obtain ⟨a0, a1, a2, a3, a4, a5, a6, a7, a8, a9, a10⟩ := part_row (row_below rp hW)
    obtain ⟨b0, b1, b2, b3, b4, b5, b6, b7, b8, b9, b10⟩ := part_row (row_below rq hW)
    exact ⟨a0, a1, a2, a3, a4, a5, a6, a7, a8, a9, a10, b0, b1, b2, b3, b4, b5, b6, b7, b8, b9, b10⟩
  have HP := Lib.hid rp; have HQ := Lib.hid rq
  obtain ⟨a0, a1, a2, a3, a4, a5, a6, a7, a8, a9, a10⟩ := part_row rp
  obtain ⟨b0, b1, b2, b3, b4, b5, b6, b7, b8, b9, b10⟩ := part_row rq
  clear rp rq
  go_enter Tryz.func177, Tryz.ntmps177
  go_upto_region 1 with fail
  rw [show (w.alloc (partCells p)).alloc (partCells q) = w1 from hw1.symm]
  clear hw1
  go_cut [5, 6] (fun s5 s6 W => ∃ gx gy : Nat, s5 = .pointer (some ⟨gx, 0, none⟩) ∧ s6 = .pointer (some ⟨gy, 0, none⟩) ∧ W.heap[gx]? = some (stampRow (stP p)) ∧ W.heap[gy]? = some (stampRow (stP q)) ∧ Grown w1 W)
  case first =>
    go_region_held3 (fun W => W.cell? ⟨w.heap.size, 0, none⟩ = some (.int .i64 p.v.k) ∧ W.cell? ⟨w.heap.size, 1, none⟩ = some (.int .i64 p.v.n) ∧ W.cell? ⟨w.heap.size, 2, none⟩ = some (.string p.v.s) ∧ W.cell? ⟨w.heap.size, 3, none⟩ = some (.int .i64 p.d.d) ∧ W.cell? ⟨w.heap.size, 4, none⟩ = some (.int .i64 p.d.s) ∧ W.cell? ⟨w.heap.size, 5, none⟩ = some (.int .i64 p.i) ∧ W.cell? ⟨w.heap.size, 6, none⟩ = some (.int .i64 p.t) ∧ W.cell? ⟨w.heap.size, 7, none⟩ = some (.int .i64 p.a.d) ∧ W.cell? ⟨w.heap.size, 8, none⟩ = some (.int .i64 p.a.s) ∧ W.cell? ⟨w.heap.size, 9, none⟩ = some (.int .i64 p.j) ∧ W.cell? ⟨w.heap.size, 10, none⟩ = some (.bool p.g) ∧ W.cell? ⟨w.heap.size + 1, 0, none⟩ = some (.int .i64 q.v.k) ∧ W.cell? ⟨w.heap.size + 1, 1, none⟩ = some (.int .i64 q.v.n) ∧ W.cell? ⟨w.heap.size + 1, 2, none⟩ = some (.string q.v.s) ∧ W.cell? ⟨w.heap.size + 1, 3, none⟩ = some (.int .i64 q.d.d) ∧ W.cell? ⟨w.heap.size + 1, 4, none⟩ = some (.int .i64 q.d.s) ∧ W.cell? ⟨w.heap.size + 1, 5, none⟩ = some (.int .i64 q.i) ∧ W.cell? ⟨w.heap.size + 1, 6, none⟩ = some (.int .i64 q.t) ∧ W.cell? ⟨w.heap.size + 1, 7, none⟩ = some (.int .i64 q.a.d) ∧ W.cell? ⟨w.heap.size + 1, 8, none⟩ = some (.int .i64 q.a.s) ∧ W.cell? ⟨w.heap.size + 1, 9, none⟩ = some (.int .i64 q.j) ∧ W.cell? ⟨w.heap.size + 1, 10, none⟩ = some (.bool q.g))
      (first | (refine K.out _ ?_; repeat (first | exact Below.refl _ _ | refine below_new ?_ _ | refine Below.drew ?_)))
      (first
        | (go_at_call 173; refine (P.out _ _).mono ?_; rintro e wx ⟨rfl, rfl⟩))
    all_goals
      go_wp2_with fail
      go_meet
      refine ⟨_, _, rfl, rfl, ?_, ?_, ?_⟩
      · repeat (first | (refine heap_at ?_; (try simp only [World.size_alloc]); first | done | omega) | refine heap_drew ?_ | (refine heap_past ?_ ?_; focus ((try simp only [World.size_alloc]); first | done | omega)))
      · repeat (first | (refine heap_at ?_; (try simp only [World.size_alloc]); first | done | omega) | refine heap_drew ?_ | (refine heap_past ?_ ?_; focus ((try simp only [World.size_alloc]); first | done | omega)))
      · repeat (first | exact Grown.refl _ | refine Grown.alloc ?_ _ | refine Grown.drew ?_)
  case rest =>
    obtain ⟨gx, gy, rfl, rfl, hx, hy, hbel⟩ := hcut
    clear a0 a1 a2 a3 a4 a5 a6 a7 a8 a9 a10 b0 b1 b2 b3 b4 b5 b6 b7 b8 b9 b10 P
    generalize stP p = s1 at hx hF2
    generalize stP q = s2 at hy hF2
    obtain ⟨x0, x1, x2⟩ := stamp_at hx
    obtain ⟨y0, y1, y2⟩ := stamp_at hy
    have HX := Lib.hid hx; have HY := Lib.hid hy
    obtain ⟨r1, hr1, C1⟩ : ∃ r1, Hid (lessS s2 s1 = r1) ∧ Hid (Calls Tryz.prog 174 #[s2.agg, s1.agg] wc fun e w' => e = .returned (.bool r1) ∧ Grown wc w') := ⟨_, rfl, L.out _ _ wc⟩
    obtain ⟨r2, hr2, C2⟩ : ∃ r2, Hid (lessS s1 s2 = r2) ∧ Hid (∀ W, Calls Tryz.prog 174 #[s1.agg, s2.agg] W fun e w' => e = .returned (.bool r2) ∧ Grown W w') := ⟨_, rfl, fun W => L.out _ _ W⟩
    have hF3 : Hid ((if r1 = true then -1 else if r2 = true then 1 else cmpI p.i q.i) = F) := by show _ = _; rw [← hr1.out, ← hr2.out]; exact hF2.out
    have HB := Lib.hid hbel
    have PC := Lib.hid (fun x y W => cmpCompareC_any x y W)
    clear hx hy hbel hF2 L
    go_wp2_with fail
    refine C1.out.mono ?_
    rintro e w3 ⟨rfl, g3⟩
    have HB3 := Lib.hid (HB.out.trans g3)
    obtain ⟨x0, x1, x2⟩ := stamp_at (row_below HX.out g3.below)
    obtain ⟨y0, y1, y2⟩ := stamp_at (row_below HY.out g3.below)
    have HX3 := Lib.hid (row_below HX.out g3.below); have HY3 := Lib.hid (row_below HY.out g3.below)
    clear C1 g3
    cases r1 with
    | true =>
      have hF4 : Hid (-1 = F) := by show _ = _; rw [← hF3.out, if_pos rfl]
      clear C2
      go_wp2_with fail
      go_ret
      exact ⟨ret_int hF4.out, B1.out.trans HB3.out⟩
    | false =>
      go_wp2_with fail
      refine (C2.out _).mono ?_
      rintro e w4 ⟨rfl, g4⟩
      have HB4 := Lib.hid (HB3.out.trans g4)
      obtain ⟨a0, a1, a2, a3, a4, a5, a6, a7, a8, a9, a10⟩ := part_row (row_below HP.out HB4.out.below)
      obtain ⟨b0, b1, b2, b3, b4, b5, b6, b7, b8, b9, b10⟩ := part_row (row_below HQ.out HB4.out.below)
      clear C2 g4 x0 x1 x2 y0 y1 y2
      cases r2 with
      | true =>
        have hF4 : Hid (1 = F) := by show _ = _; rw [← hF3.out, if_neg (by simp), if_pos rfl]
        go_wp2_with fail
        go_ret
        exact ⟨ret_int hF4.out, B1.out.trans HB4.out⟩
      | false =>
        have hF4 : Hid (cmpI p.i q.i = F) := by show _ = _; rw [← hF3.out, if_neg (by simp), if_neg (by simp)]
        go_wp2_with fail
        refine (PC.out _ _ _).mono ?_
        rintro e w5 ⟨rfl, rfl⟩
        go_wp2_with fail
        go_ret
        exact ⟨ret_int hF4.out, B1.out.trans HB4.out⟩
end Go.Proofs.YtfljhnalmiibeaaGreat

