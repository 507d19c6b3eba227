/- Several texts laid together: BasShow, BasRow, BasRows. -/
import Derived.Test.YtfljhnalmiibeaaGreatMbBasPut2
import Derived.Test.YtfljhnalmiibeaaGreatMbSchRefT
import Derived.Maps.AppendAt
import Derived.Laws.OwnMore
namespace Go.Proofs.YtfljhnalmiibeaaGreat
set_option maxRecDepth 100000
open Go.RowKit
def showQ (y : CQ) : V3 :=
  if y.k = 0 then y.v else if y.k = 1 then topL (y.l.map P11.val) else if y.k = 2 then showC ⟨y.k, y.v, none, y.l.length, 0⟩ else if y.k = 3 then ⟨1, ((numsB y.l).length : Nat), ⟨#[]⟩⟩ else if y.k = 4 then showT y.k y.v y.l else ⟨0, 0, ⟨#[]⟩⟩
theorem v3one13 (x : V3) : ∀ v ∈ x.cells, v.oneCell' = true := by
  intro v hv
  simp only [V3.cells, List.mem_cons, List.not_mem_nil, or_false] at hv
  rcases hv with rfl | rfl | rfl <;> rfl
theorem Tryz.infoVal13 : (Tryz.prog.info? 68).map (fun i => (i.zero, i.size, i.bytes)) = some (some (.agg #[.int .i64 0, .int .i64 0, .string ⟨#[]⟩]), 3, 32) := by kernel_rfl
theorem Tryz.infoRow13 : (Tryz.prog.info? 59).map (fun i => (i.zero, i.size, i.bytes)) = some (some (.slice none 0 0), 1, 24) := by kernel_rfl
abbrev rowBox13 (x : SlR) : Obj := .cells #[.slice x.a x.n x.c] 59
theorem run_pushV13 {w W0 : World} (base : Nat) (v : Value) (n : Nat) (l : List V3) (u : V3) (hown : w.ownsRow base 68 3 v n (l.flatMap V3.cells)) (hn : n < 4294967296) (lo : Nat) (hlo : lo ≤ base) (hbel : Below lo W0 w) (hbase : base ≤ w.heap.size) (ty : TypeId) :
    ∃ v' w', (Builtin.append_ #[59, 59] ty #[v, .slice (some ⟨w.heap.size, 0, none⟩) 1 1]).run Tryz.prog (w.alloc (valRow u)) = .ok v' w' ∧ w'.ownsRow base 68 3 v' (n + 1) ((l ++ [u]).flatMap V3.cells) ∧ Below lo W0 w' ∧ w.heap.size + 1 ≤ w'.heap.size
      ∧ (∀ k, k < w.heap.size → v.ownBlock ≠ some k → w'.heap[k]? = w.heap[k]?) ∧ (v'.ownBlock = v.ownBlock ∨ v'.ownBlock = some (w.heap.size + 1)) := by
  obtain ⟨i0, hi0, hz0, hz1, hz2⟩ := info_parts Tryz.infoVal13
  have hsz : (w.alloc (valRow u)).heap.size = w.heap.size + 1 := by simp only [World.size_alloc]
  obtain ⟨v', w', hr, ho, hg, _, hat⟩ := run_append_own_at (P := Tryz.prog) (w := w.alloc (valRow u)) base 59 ty 68 i0 _ 3 32 Tryz.underlying59 hi0 hz0 hz1 hz2 rfl (by omega) v n (l.flatMap V3.cells) (hown.alloc _) ⟨w.heap.size, 0, none⟩ 1 1 (V3.cells u) (by rw [v3len])
    (by intro j y hj; rw [Addr.add_lit, Nat.zero_add, cell_row (heap_alloc_new w _)]; simpa [V3.cells] using hj) (v3one13 u) (by simp only [maxLen]; omega) (by omega) (by rw [hsz]; omega)
  rw [hsz] at hat
  refine ⟨v', w', hr, by rw [List.flatMap_append]; simpa using ho, (hbel.alloc (by omega) _).grown hg (by rw [hsz]; omega) (fun k hk => by have := (hown.lt k hk).1; omega), by have := hg.size; omega, fun k hk hne => ?_, hat⟩
  rw [hg.block k (by omega) (fun e => hne e.symm), Below.heap_alloc w _ k hk]
theorem madeV13 : ∃ Z : Nat → Array Value, Hid (∀ k, (Z k).size = k * 3) ∧ Hid (∀ k : Nat, k ≤ 4294967296 → ∀ W : World, (Instr.makeSlice 59 (.int .i64 0) (.int .i64 (k : Int))).run Tryz.prog W = .ok (.slice (some ⟨W.heap.size, 0, none⟩) 0 k) (W.alloc (.cells (Z k) 68))) := by
  obtain ⟨i0, hi0, hz0, hz1, hz2⟩ := info_parts Tryz.infoVal13
  refine ⟨fun k => madeCells (Value.cells (.agg #[.int .i64 0, .int .i64 0, .string ⟨#[]⟩])) (k * 3), fun k => size_madeCells _ _, fun k hk W => ?_⟩
  have := run_make (P := Tryz.prog) W 59 68 i0 _ Tryz.underlying59 hi0 hz0 .i64 .i64 0 k (by omega) (by omega) (by rw [hz2]; omega) (by omega)
  rw [hz1] at this
  simpa using this
theorem run_pushR13 {w W0 : World} (base : Nat) (v : Value) (n : Nat) (l : List SlR) (u : SlR) (hown : w.ownsRow base 59 1 v n (l.flatMap SlR.cells)) (hn : n < 4294967296) (lo : Nat) (hlo : lo ≤ base) (hbel : Below lo W0 w) (hbase : base ≤ w.heap.size) (ty : TypeId) :
    ∃ v' w', (Builtin.append_ #[53, 53] ty #[v, .slice (some ⟨w.heap.size, 0, none⟩) 1 1]).run Tryz.prog (w.alloc (rowBox13 u)) = .ok v' w' ∧ w'.ownsRow base 59 1 v' (n + 1) ((l ++ [u]).flatMap SlR.cells) ∧ Below lo W0 w' ∧ w.heap.size + 1 ≤ w'.heap.size
      ∧ (∀ k, k < w.heap.size → v.ownBlock ≠ some k → w'.heap[k]? = w.heap[k]?) ∧ (v'.ownBlock = v.ownBlock ∨ v'.ownBlock = some (w.heap.size + 1)) := by
  obtain ⟨i0, hi0, hz0, hz1, hz2⟩ := info_parts Tryz.infoRow13
  have hsz : (w.alloc (rowBox13 u)).heap.size = w.heap.size + 1 := by simp only [World.size_alloc]
  obtain ⟨v', w', hr, ho, hg, _, hat⟩ := run_append_own_at (P := Tryz.prog) (w := w.alloc (rowBox13 u)) base 53 ty 59 i0 _ 1 24 Tryz.underlying53 hi0 hz0 hz1 hz2 rfl (by omega) v n (l.flatMap SlR.cells) (hown.alloc _) ⟨w.heap.size, 0, none⟩ 1 1 (SlR.cells u) (by rw [slRlen])
    (by intro j y hj; rw [Addr.add_lit, Nat.zero_add, cell_row (heap_alloc_new w _)]; simpa [SlR.cells] using hj) (slRone u) (by simp only [maxLen]; omega) (by omega) (by rw [hsz]; omega)
  rw [hsz] at hat
  refine ⟨v', w', hr, by rw [List.flatMap_append]; simpa using ho, (hbel.alloc (by omega) _).grown hg (by rw [hsz]; omega) (fun k hk => by have := (hown.lt k hk).1; omega), by have := hg.size; omega, fun k hk hne => ?_, hat⟩
  rw [hg.block k (by omega) (fun e => hne e.symm), Below.heap_alloc w _ k hk]
theorem madeR13 : ∃ Z : Nat → Array Value, Hid (∀ k, (Z k).size = k * 1) ∧ Hid (∀ k : Nat, k ≤ 4294967296 → ∀ W : World, (Instr.makeSlice 53 (.int .i64 0) (.int .i64 (k : Int))).run Tryz.prog W = .ok (.slice (some ⟨W.heap.size, 0, none⟩) 0 k) (W.alloc (.cells (Z k) 59))) := by
  obtain ⟨i0, hi0, hz0, hz1, hz2⟩ := info_parts Tryz.infoRow13
  refine ⟨fun k => madeCells (Value.cells (.slice none 0 0)) (k * 1), fun k => size_madeCells _ _, fun k hk W => ?_⟩
  have := run_make (P := Tryz.prog) W 53 59 i0 _ Tryz.underlying53 hi0 hz0 .i64 .i64 0 k (by omega) (by omega) (by rw [hz2]; omega) (by omega)
  rw [hz1] at this
  simpa using this
set_option maxHeartbeats 6400000 in
theorem show13_any (x : C5) (y : CQ) (w : World) (h : CellR w x y) (hn : y.l.length ≤ 4294967000) :
    Calls Tryz.prog 27 #[x.val] w fun e w' => e = .returned (showQ y).agg ∧ Below w.heap.size w w' := by
  obtain ⟨hk, hv, hp⟩ := h
  obtain ⟨w1, hw1⟩ : ∃ w1, w1 = ((w.alloc (cellRow x.k x.v (.slice x.A x.n x.c))).alloc (valRow ⟨0, 0, ⟨#[]⟩⟩)) := ⟨_, rfl⟩
  have HW := Lib.hid hw1
  have r0 : w1.heap[w.heap.size]? = some (cellRow x.k x.v (.slice x.A x.n x.c)) := by rw [hw1]; exact old_row13 _ (new_row13 _ _ rfl)
  have r1 : w1.heap[w.heap.size + 1]? = some (valRow ⟨0, 0, ⟨#[]⟩⟩) := by rw [hw1]; exact new_row13 _ _ (by simp only [World.size_alloc])
  have b1 : Below w.heap.size w w1 := by rw [hw1]; exact below_new (below_new (Below.refl _ _) _) _
  have sz : w1.heap.size = w.heap.size + 1 + 1 := by rw [hw1]; simp only [World.size_alloc]
  have HP1 := Lib.hid (hp.below b1)
  have HLX : Hid (y.l.length = x.n) := hp.len
  have HN : Hid (x.n ≤ 4294967000) := by show _ ≤ _; rw [← HLX.out]; exact hn
  obtain ⟨p0, p1, p2, p3, p4⟩ := cell_row5 r0
  have R1 := Lib.hid r1; have HB := Lib.hid b1
  clear hp hn r0 r1 b1 sz hw1
  generalize hg : w.heap.size + 1 = g1 at R1 ⊢
  have HG := Lib.hid hg
  clear hg
  rw [hv] at HW p1 p2 p3
  obtain ⟨xk, xv, xA, xn, xc⟩ := x
  dsimp only at hk hv HP1 HLX HN p0 p1 p2 p3 p4 HW
  subst hv hk
  rcases (show y.k = 0 ∨ y.k = 1 ∨ y.k = 2 ∨ y.k = 3 ∨ y.k = 4 ∨ ¬ (y.k = 0 ∨ y.k = 1 ∨ y.k = 2 ∨ y.k = 3 ∨ y.k = 4) by omega) with hk0 | hk1 | hk2 | hk3 | hk4 | hk5
  · have HV : Hid (showQ y = y.v) := by show _ = _; rw [showQ, if_pos hk0]
    rw [HV.out]
    have q0 : (y.k == 0) = true := by rw [hk0]; rfl
    clear hk0
    go_enter Tryz.func27, Tryz.ntmps27
    go_upto_region 1 with fail
    rw [show ((w.alloc (cellRow y.k y.v (.slice xA xn xc))).alloc (valRow ⟨0, 0, ⟨#[]⟩⟩)) = w1 from HW.out.symm]
    clear HW
    rw [HG.out]
    obtain ⟨m0, m1, m2⟩ := val_row R1.out
    have f2 := frozen_row R1.out
    go_wp2_with fail
    refine bodyPost_ret (v := V3.agg (y.v)) (results_cell_row rfl _ _ g1 68 _ (0, 0) _ rfl (set3row R1.out) Tryz.underlying68 rfl (by kernel_rfl)) rfl ?_
    exact ⟨rfl, below_put (below_put (below_put HB.out _ _ _ (by have := HG.out; omega)) _ _ _ (by have := HG.out; omega)) _ _ _ (by have := HG.out; omega)⟩
  · have HV : Hid (showQ y = topL (y.l.map P11.val)) := by show _ = _; rw [showQ, if_neg (by omega), if_pos hk1]
    rw [HV.out]
    have q0 : (y.k == 0) = false := by rw [hk1]; rfl
    have q1 : (y.k == 1) = true := by rw [hk1]; rfl
    have C := Lib.hid (show_any7 y.k y.v xA xn xc y.l w1 HP1.out)
    obtain ⟨vv, hvv⟩ : ∃ vv : V3, Hid (topL (y.l.map P11.val) = vv) := ⟨_, rfl⟩
    rw [hvv.out] at C ⊢
    clear hk1
    go_enter Tryz.func27, Tryz.ntmps27
    go_upto_region 1 with fail
    rw [show ((w.alloc (cellRow y.k y.v (.slice xA xn xc))).alloc (valRow ⟨0, 0, ⟨#[]⟩⟩)) = w1 from HW.out.symm]
    clear HW
    rw [HG.out]
    go_wp2_with (go_at_call 53; refine C.out.mono ?_; rintro e w2 ⟨rfl, b2⟩; have R2 := Lib.hid (row_below R1.out b2); obtain ⟨m0, m1, m2⟩ := val_row R2.out; have f2 := frozen_row R2.out)
    refine bodyPost_ret (v := vv.agg) (results_cell_row rfl _ _ g1 68 _ (0, 0) _ rfl (set3row R2.out) Tryz.underlying68 rfl (by kernel_rfl)) rfl ?_
    exact ⟨rfl, below_put (below_put (below_put (below_then HB.out b2) _ _ _ (by have := HG.out; omega)) _ _ _ (by have := HG.out; omega)) _ _ _ (by have := HG.out; omega)⟩
  · have HV : Hid (showQ y = showC ⟨y.k, y.v, xA, xn, xc⟩) := by show _ = _; rw [showQ, if_neg (by omega), if_neg (by omega), if_pos hk2, HLX.out]; rfl
    rw [HV.out]
    have q0 : (y.k == 0) = false := by rw [hk2]; rfl
    have q1 : (y.k == 1) = false := by rw [hk2]; rfl
    have q2 : (y.k == 2) = true := by rw [hk2]; rfl
    have C := Lib.hid (cntShow_any ⟨y.k, y.v, xA, xn, xc⟩ w1)
    obtain ⟨vv, hvv⟩ : ∃ vv : V3, Hid (showC ⟨y.k, y.v, xA, xn, xc⟩ = vv) := ⟨_, rfl⟩
    rw [hvv.out] at C ⊢
    clear hk2
    go_enter Tryz.func27, Tryz.ntmps27
    go_upto_region 1 with fail
    rw [show ((w.alloc (cellRow y.k y.v (.slice xA xn xc))).alloc (valRow ⟨0, 0, ⟨#[]⟩⟩)) = w1 from HW.out.symm]
    clear HW
    rw [HG.out]
    go_wp2_with (go_at_call 54; refine C.out.mono ?_; rintro e w2 ⟨rfl, b2⟩; have R2 := Lib.hid (row_below R1.out b2); obtain ⟨m0, m1, m2⟩ := val_row R2.out; have f2 := frozen_row R2.out)
    refine bodyPost_ret (v := vv.agg) (results_cell_row rfl _ _ g1 68 _ (0, 0) _ rfl (set3row R2.out) Tryz.underlying68 rfl (by kernel_rfl)) rfl ?_
    exact ⟨rfl, below_put (below_put (below_put (below_then HB.out b2) _ _ _ (by have := HG.out; omega)) _ _ _ (by have := HG.out; omega)) _ _ _ (by have := HG.out; omega)⟩
  · have HV : Hid (showQ y = ⟨1, ((numsB y.l).length : Nat), ⟨#[]⟩⟩) := by show _ = _; rw [showQ, if_neg (by omega), if_neg (by omega), if_neg (by omega), if_pos hk3]
    rw [HV.out]
    have q0 : (y.k == 0) = false := by rw [hk3]; rfl
    have q1 : (y.k == 1) = false := by rw [hk3]; rfl
    have q2 : (y.k == 2) = false := by rw [hk3]; rfl
    have q3 : (y.k == 3) = true := by rw [hk3]; rfl
    have C := Lib.hid (showB_any y.k y.v xA xn xc y.l w1 HP1.out (by have := HN.out; omega))
    obtain ⟨vv, hvv⟩ : ∃ vv : V3, Hid (⟨1, ((numsB y.l).length : Nat), ⟨#[]⟩⟩ = vv) := ⟨_, rfl⟩
    rw [hvv.out]
    have e3 : (Value.agg #[.int .i64 1, .int .i64 ((numsB y.l).length : Nat), .string ⟨#[]⟩]) = vv.agg := by rw [← hvv.out]
    rw [e3] at C
    clear e3
    clear hk3
    go_enter Tryz.func27, Tryz.ntmps27
    go_upto_region 1 with fail
    rw [show ((w.alloc (cellRow y.k y.v (.slice xA xn xc))).alloc (valRow ⟨0, 0, ⟨#[]⟩⟩)) = w1 from HW.out.symm]
    clear HW
    rw [HG.out]
    go_wp2_with (go_at_call 55; refine C.out.mono ?_; rintro e w2 ⟨rfl, b2⟩; have R2 := Lib.hid (row_below R1.out b2); obtain ⟨m0, m1, m2⟩ := val_row R2.out; have f2 := frozen_row R2.out)
    refine bodyPost_ret (v := vv.agg) (results_cell_row rfl _ _ g1 68 _ (0, 0) _ rfl (set3row R2.out) Tryz.underlying68 rfl (by kernel_rfl)) rfl ?_
    exact ⟨rfl, below_put (below_put (below_put (below_then HB.out b2) _ _ _ (by have := HG.out; omega)) _ _ _ (by have := HG.out; omega)) _ _ _ (by have := HG.out; omega)⟩
  · have HV : Hid (showQ y = showT y.k y.v y.l) := by show _ = _; rw [showQ, if_neg (by omega), if_neg (by omega), if_neg (by omega), if_neg (by omega), if_pos hk4]
    rw [HV.out]
    have q0 : (y.k == 0) = false := by rw [hk4]; rfl
    have q1 : (y.k == 1) = false := by rw [hk4]; rfl
    have q2 : (y.k == 2) = false := by rw [hk4]; rfl
    have q3 : (y.k == 3) = false := by rw [hk4]; rfl
    have q4 : (y.k == 4) = true := by rw [hk4]; rfl
    have C := Lib.hid (showT_any y.k y.v xA xn xc y.l w1 HP1.out (by have := HN.out; omega))
    obtain ⟨vv, hvv⟩ : ∃ vv : V3, Hid (showT y.k y.v y.l = vv) := ⟨_, rfl⟩
    rw [hvv.out] at C ⊢
    clear hk4
    go_enter Tryz.func27, Tryz.ntmps27
    go_upto_region 1 with fail
    rw [show ((w.alloc (cellRow y.k y.v (.slice xA xn xc))).alloc (valRow ⟨0, 0, ⟨#[]⟩⟩)) = w1 from HW.out.symm]
    clear HW
    rw [HG.out]
    go_wp2_with (go_at_call 56; refine C.out.mono ?_; rintro e w2 ⟨rfl, b2⟩; have R2 := Lib.hid (row_below R1.out b2); obtain ⟨m0, m1, m2⟩ := val_row R2.out; have f2 := frozen_row R2.out)
    refine bodyPost_ret (v := vv.agg) (results_cell_row rfl _ _ g1 68 _ (0, 0) _ rfl (set3row R2.out) Tryz.underlying68 rfl (by kernel_rfl)) rfl ?_
    exact ⟨rfl, below_put (below_put (below_put (below_then HB.out b2) _ _ _ (by have := HG.out; omega)) _ _ _ (by have := HG.out; omega)) _ _ _ (by have := HG.out; omega)⟩
  · have HV : Hid (showQ y = ⟨0, 0, ⟨#[]⟩⟩) := by show _ = _; rw [showQ, if_neg (by omega), if_neg (by omega), if_neg (by omega), if_neg (by omega), if_neg (by omega)]
    rw [HV.out]
    have q0 : (y.k == 0) = false := by rw [beq_eq_false_iff_ne]; omega
    have q1 : (y.k == 1) = false := by rw [beq_eq_false_iff_ne]; omega
    have q2 : (y.k == 2) = false := by rw [beq_eq_false_iff_ne]; omega
    have q3 : (y.k == 3) = false := by rw [beq_eq_false_iff_ne]; omega
    have q4 : (y.k == 4) = false := by rw [beq_eq_false_iff_ne]; omega
    go_enter Tryz.func27, Tryz.ntmps27
    go_upto_region 1 with fail
    rw [show ((w.alloc (cellRow y.k y.v (.slice xA xn xc))).alloc (valRow ⟨0, 0, ⟨#[]⟩⟩)) = w1 from HW.out.symm]
    clear HW
    rw [HG.out]
    obtain ⟨m0, m1, m2⟩ := val_row R1.out
    have f2 := frozen_row R1.out
    go_wp2_with fail
    refine bodyPost_ret (v := V3.agg (⟨0, 0, ⟨#[]⟩⟩)) (results_cell_row rfl _ _ g1 68 _ (0, 0) _ rfl (set3row R1.out) Tryz.underlying68 rfl (by kernel_rfl)) rfl ?_
    exact ⟨rfl, below_put (below_put (below_put HB.out _ _ _ (by have := HG.out; omega)) _ _ _ (by have := HG.out; omega)) _ _ _ (by have := HG.out; omega)⟩
end Go.Proofs.YtfljhnalmiibeaaGreat

namespace Go.Proofs.YtfljhnalmiibeaaGreat
set_option maxRecDepth 100000
open Go.RowKit
def rowQ (y : LQ) : List V3 := y.cs.map showQ
theorem rowQ_next {y : LQ} {k : Nat} {c : CQ} (h : y.cs[k]? = some c) : (y.cs.take (k + 1)).map showQ = (y.cs.take k).map showQ ++ [showQ c] := by
  rw [List.take_add_one, h]; simp
set_option maxHeartbeats 6400000 in
theorem row13_any (x : LnR) (y : LQ) (w0 w : World) (h : LineR w0 x y) (hw : Below w0.heap.size w0 w) (hs : LineOk y) :
    Calls Tryz.prog 77 #[x.agg] w fun e w' => ∃ z : SlR, e = .returned (.slice z.a z.n z.c) ∧ RdV w' z.a z.n z.c (rowQ y) ∧ Below w.heap.size w w' ∧ (0 < z.n → ∀ a, z.a = some a → w.heap.size ≤ a.block) := by
  obtain ⟨xkey, xca, xcn, xcc, xba, xbn, xbc⟩ := x
  obtain ⟨hk, hcs, _⟩ := h
  dsimp only at hk hcs
  have hcs1 := hcs.below cellR_keeps hw
  have hlen := hcs.len
  have hn : xcn ≤ 4294967000 := by have := hs.cs; omega
  obtain ⟨w1, hw1⟩ : ∃ w1, w1 = (w.alloc (lineBox ⟨xkey, xca, xcn, xcc, xba, xbn, xbc⟩)) := ⟨_, rfl⟩
  have HW := Lib.hid hw1
  have r0 : w1.heap[w.heap.size]? = some (lineBox ⟨xkey, xca, xcn, xcc, xba, xbn, xbc⟩) := by rw [hw1]; exact new_row13 _ _ rfl
  have b1 : Below w.heap.size w w1 := by rw [hw1]; exact below_new (Below.refl _ _) _
  have sz : w1.heap.size = w.heap.size + 1 := by rw [hw1]; simp only [World.size_alloc]
  obtain ⟨p0, p1, p2⟩ := line_row r0
  dsimp only at p0 p1 p2
  obtain ⟨Z, HZ, HMK⟩ := madeV13
  have mk := HMK.out xcn (by omega) w1
  obtain ⟨w2, hw2⟩ : ∃ w2, w2 = w1.alloc (.cells (Z xcn) 68) := ⟨_, rfl⟩
  rw [← hw2] at mk
  have b2 : Below w1.heap.size w1 w2 := by rw [hw2]; exact below_new (Below.refl _ _) _
  have o2 : w2.ownsRow w1.heap.size 68 3 (.slice (some ⟨w1.heap.size, 0, none⟩) 0 xcn) 0 (([] : List V3).flatMap V3.cells) := by rw [hw2]; exact World.ownsRow_made w1 (Z xcn) xcn (Nat.le_refl _) (by simp only [maxLen]; omega) (HZ.out _)
  have HP : Hid (∀ (k : Nat) (c : CQ), y.cs[k]? = some c → c.l.length ≤ 4294967000) := by show ∀ k c, _; intro k c hc; exact hs.parts c (List.mem_of_getElem? hc)
  have R0 := Lib.hid (row_below r0 b2); have B2 := Lib.hid (below_then b1 b2); have O2 := Lib.hid o2; have HCS := Lib.hid hcs1; have HL : Hid (y.cs.length = xcn) := hlen
  have HSZ := Lib.hid b1.size
  have HSB : Hid (w.heap.size < w1.heap.size) := by show _ < _; omega
  have hle : xcn ≤ 9223372036854775807 := by omega
  have HN := Lib.hid hn
  clear hcs hcs1 hlen hw hs hw1 hw2 r0 b1 b2 o2 sz hk hn HZ HMK
  go_enter Tryz.func77, Tryz.ntmps77
  go_upto_region 1 with fail
  rw [show (w.alloc (lineBox ⟨xkey, xca, xcn, xcc, xba, xbn, xbc⟩)) = w1 from HW.out.symm]
  clear HW
  go_upto_region 2 with fail
  obtain ⟨p0, p1, p2⟩ := line_row R0.out
  dsimp only at p0 p1 p2
  go_wp2_with fail
  clear p0 p1 p2 mk
  obtain ⟨B, hB⟩ : ∃ B, B = w1.heap.size := ⟨_, rfl⟩
  rw [← hB] at O2 HSZ HSB
  go_loopw [3, 13] (fun r i wr => ∃ (k : Nat), k ≤ xcn ∧ i = .int .i64 k ∧ Hid (wr.ownsRow B 68 3 r k (((y.cs.take k).map showQ).flatMap V3.cells)) ∧ Hid (wr.heap[w.heap.size]? = some (lineBox ⟨xkey, xca, xcn, xcc, xba, xbn, xbc⟩)) ∧ Hid (Below w.heap.size w wr) ∧ Hid (B ≤ wr.heap.size)) (fun _ i _ => xcn - (intOf i).toNat)
  case atStart =>
    rw [hB] at O2
    exact ⟨0, Nat.zero_le _, rfl, by rw [hB]; simpa using O2, R0, B2, by show B ≤ _; have := (O2.out.lt w1.heap.size rfl).2; omega⟩
  case round =>
    clear O2 R0 B2 hB
    obtain ⟨k, hk, rfl, O2, R0, B2, HBS⟩ := hrel
    by_cases hlt : k < xcn
    · obtain ⟨b, o, xc, yc, rfl, hb, hx, hr, hc⟩ := HCS.out.cell13 hlt
      obtain ⟨d0, d1, d2, d3, d4⟩ := hc wr B2.out
      have CR := Lib.hid (cellR_keeps _ _ _ _ hr (sees_below B2.out))
      obtain ⟨wq, hwq⟩ : ∃ W, W = wr.alloc (cellRow xc.k xc.v (.slice xc.A xc.n xc.c)) := ⟨_, rfl⟩
      have HWQ := Lib.hid hwq
      have bq : Below wr.heap.size wr wq := by rw [hwq]; exact below_new (Below.refl _ _) _
      have rq : wq.heap[wr.heap.size]? = some (cellRow xc.k xc.v (.slice xc.A xc.n xc.c)) := by rw [hwq]; exact heap_alloc_new _ _
      obtain ⟨e0, e1, e2, e3, e4⟩ := cell_row5 rq
      have SH := Lib.hid (show13_any xc yc wq (cellR_keeps _ _ _ _ CR.out (sees_below bq)) (HP.out k yc hx))
      obtain ⟨vv, hvv⟩ : ∃ vv, Hid (showQ yc = vv) := ⟨_, rfl⟩
      rw [hvv.out] at SH
      have HNX : Hid ((y.cs.take (k + 1)).map showQ = (y.cs.take k).map showQ ++ [vv]) := by show _ = _; rw [rowQ_next hx, hvv.out]
      have OQ := Lib.hid (own_below O2.out bq)
      have BQ := Lib.hid bq
      have RQ := Lib.hid (row_below R0.out bq)
      have y1 : (k : Int) < (xcn : Int) := by omega
      have y0 : (0 : Int) ≤ (k : Int) := by omega
      clear hc hr hx hb hwq bq rq
      go_upto_region 5 with fail
      rw [show wr.alloc (Obj.cells #[Value.int .i64 xc.k, .int .i64 xc.v.k, .int .i64 xc.v.n, .string xc.v.s, .slice xc.A xc.n xc.c] 72) = wq from HWQ.out.symm]
      clear HWQ d0 d1 d2 d3 d4
      go_wp2_with (first
        | (go_at_call 27; refine SH.out.mono ?_; rintro e w5 ⟨rfl, b5⟩; have O5 := own_below OQ.out b5; obtain ⟨v', w6, hr6, o6, b6, s6, k6, _⟩ := run_pushV13 (W0 := w) B _ k _ vv O5 (by have := HN.out; omega) w.heap.size (by have := HSZ.out; omega) (below_then B2.out (below_then BQ.out b5)) (by have := HBS.out; have := BQ.out.size; have := b5.size; omega) 59; have R6 := row_below RQ.out b5; have b6r : ∀ o : Obj, w5.heap[w.heap.size]? = some o → Hid (w6.heap[w.heap.size]? = some o)   := (fun _ hh => (k6 w.heap.size (row_lt hh) (fun e => by have h1 := (O5.lt _ e).1; have h2 := HSB.out; omega)).trans hh))
        | (at_builtin; refine Lib.wpList_append_run _ rfl _ _ _ _ rfl _ _ rfl rfl _ _ hr6 ?_))
      have O6 : Hid (w6.ownsRow B 68 3 v' (k + 1) (((y.cs.take (k + 1)).map showQ).flatMap V3.cells)) := by rw [HNX.out]; exact o6
      have BB6 : Hid (Below w.heap.size w w6) := b6
      have R7 := b6r _ R6
      have HB6 : Hid (B ≤ w6.heap.size) := by show _ ≤ _; have := HBS.out; have := BQ.out.size; have := b5.size; omega
      exact ⟨⟨k + 1, by omega, by go_num, O6, R7, BB6, HB6⟩, by simp [intOf]; omega⟩
    · have hke : xcn = k := by omega
      have y1 : ¬ (k : Int) < (xcn : Int) := by omega
      have hOF := O2.out
      rw [List.take_of_length_le (by rw [HL.out, hke]; exact Nat.le_refl _)] at hOF
      obtain ⟨A9, c9, rfl, hrd⟩ := RdG.own_ (l := y.cs.map showQ) v3len (by omega) hOF
      have hlt9 : ∀ a, A9 = some a → B ≤ a.block := fun a ha => (hOF.lt a.block (by rw [ha]; rfl)).1
      have HRD := Lib.hid hrd; have HLT := Lib.hid hlt9
      clear hOF hrd hlt9 hke
      go_wp2_with fail
      go_ret
      exact ⟨⟨A9, k, c9⟩, rfl, by rw [rowQ]; exact HRD.out, B2.out, fun _ a ha => by have h1 := HLT.out a ha; have h2 := HSZ.out; omega⟩
end Go.Proofs.YtfljhnalmiibeaaGreat

namespace Go.Proofs.YtfljhnalmiibeaaGreat
set_option maxRecDepth 100000
open Go.RowKit
abbrev RdRws (w : World) (A : Option Addr) (n c : Nat) (l : List (List V3)) : Prop := RdR SlR.cells 1 (fun w x y => RdV w x.a x.n x.c y) w A n c l
/-- rows that are shown, one behind the other: a row of the call's own -/
structure RowsIn (w : World) (B : Nat) (r : Value) (k : Nat) (D : List SlR) (l : List LQ) : Prop where
  len : D.length = k
  own : w.ownsRow B 59 1 r k (D.flatMap SlR.cells)
  each : ∀ (j : Nat) (x : SlR) (y : LQ), D[j]? = some x → l[j]? = some y → RdV w x.a x.n x.c (rowQ y)
  far : ∀ (j : Nat) (x : SlR), D[j]? = some x → 0 < x.n → ∀ a, x.a = some a → r.ownBlock ≠ some a.block
theorem RowsIn.below {w w' : World} {B : Nat} {r : Value} {k : Nat} {D : List SlR} {l : List LQ} (h : RowsIn w B r k D l) (b : Below w.heap.size w w') : RowsIn w' B r k D l :=
  ⟨h.len, own_below h.own b, fun j x y hx hy => (h.each j x y hx hy).below b, h.far⟩
theorem RowsIn.push {w w' : World} {B : Nat} {r r' : Value} {k : Nat} {D : List SlR} {l : List LQ} (h : RowsIn w B r k D l) {u : SlR} {y : LQ} (hy : l[k]? = some y) (hu : RdV w u.a u.n u.c (rowQ y)) (hf : 0 < u.n → ∀ a, u.a = some a → r.ownBlock ≠ some a.block)
    (ho : w'.ownsRow B 59 1 r' (k + 1) ((D ++ [u]).flatMap SlR.cells)) (hs : w.heap.size ≤ w'.heap.size) (hk : ∀ j, j < w.heap.size → r.ownBlock ≠ some j → w'.heap[j]? = w.heap[j]?) (hb : r'.ownBlock = r.ownBlock ∨ r'.ownBlock = some (w.heap.size + 1)) : RowsIn w' B r' (k + 1) (D ++ [u]) l := by
  have kp : ∀ (x : SlR) (vs : List V3), RdV w x.a x.n x.c vs → (0 < x.n → ∀ a, x.a = some a → r.ownBlock ≠ some a.block) → RdV w' x.a x.n x.c vs := by
    intro x vs hr hf
    obtain ⟨h1, h2, h3, h4⟩ := hr
    refine ⟨h1, h2, h3, fun h0 => ?_⟩
    obtain ⟨b, o, e, hlt, hc⟩ := h4 h0
    refine ⟨b, o, e, by omega, fun j hj i v hv => ?_⟩
    have := hc j hj i v hv
    simp only [World.cell?, hk b hlt (hf h0 ⟨b, o, none⟩ e)] at this ⊢
    exact this
  have fr : ∀ (x : SlR), (0 < x.n → ∃ b o, x.a = some ⟨b, o, none⟩ ∧ b < w.heap.size) → (0 < x.n → ∀ a, x.a = some a → r.ownBlock ≠ some a.block) → 0 < x.n → ∀ a, x.a = some a → r'.ownBlock ≠ some a.block := by
    intro x hb2 hf h0 a ha e
    rcases hb with h1 | h1
    · rw [h1] at e; exact hf h0 a ha e
    · rw [h1] at e; injection e with e
      obtain ⟨b, o, e2, hlt⟩ := hb2 h0
      rw [ha] at e2; injection e2 with e2; subst e2
      dsimp only at e; omega
  refine ⟨by rw [List.length_append, h.len]; rfl, ho, fun j x y2 hx hy2 => ?_, fun j x hx => ?_⟩
  · rw [List.getElem?_append] at hx
    split at hx
    · exact kp x _ (h.each j x y2 hx hy2) (h.far j x hx)
    · rename_i hj
      have hjk : j = k := by
        have := (List.getElem?_eq_some_iff.1 hx).1
        have := h.len
        simp at *; omega
      subst hjk
      rw [h.len, Nat.sub_self] at hx
      simp at hx; subst hx
      rw [hy] at hy2; injection hy2 with hy2; subst hy2
      exact kp u _ hu hf
  · rw [List.getElem?_append] at hx
    split at hx
    · rename_i hj
      by_cases hjl : j < l.length
      · exact fr x (fun h0 => (h.each j x _ hx (List.getElem?_eq_getElem hjl)).hsize h0) (h.far j x hx)
      · exfalso
        have := (List.getElem?_eq_some_iff.1 hy).1
        have := h.len
        omega
    · rename_i hj
      have hjk : j = k := by
        have := (List.getElem?_eq_some_iff.1 hx).1
        have := h.len
        simp at *; omega
      subst hjk
      rw [h.len, Nat.sub_self] at hx
      simp at hx; subst hx
      exact fr u (fun h0 => hu.hsize h0) hf
theorem RowsIn.reads {w : World} {B : Nat} {r : Value} {k : Nat} {D : List SlR} {l : List LQ} (h : RowsIn w B r k D l) (hl : l.length = k) : ∃ A c, r = .slice A k c ∧ RdRws w A k c (l.map rowQ) := by
  obtain ⟨A, c, e, hrd⟩ := RdG.own_ slRlen (by omega) h.own
  refine ⟨A, c, e, D, hrd, by rw [h.len, List.length_map, hl], fun j x y hx hy => ?_⟩
  rw [List.getElem?_map] at hy
  cases hq : l[j]? with
  | none => rw [hq] at hy; cases hy
  | some y0 => rw [hq] at hy; simp at hy; subst hy; exact h.each j x y0 hx hq
set_option maxHeartbeats 6400000 in
theorem rows13_any (A : Option Addr) (n c : Nat) (l : List LQ) (w0 w : World) (h : RdLs w0 A n c l) (hw : Below w0.heap.size w0 w) (hs : ∀ y ∈ l, LineOk y) (hn : n ≤ 4294967000) :
    Calls Tryz.prog 52 #[.slice A n c] w fun e w' => ∃ z : SlR, e = .returned (.slice z.a z.n z.c) ∧ RdRws w' z.a z.n z.c (l.map rowQ) ∧ Below w.heap.size w w' := by
  have hlen := h.len
  have hle : n ≤ 9223372036854775807 := by omega
  obtain ⟨Z, HZ, HMK⟩ := madeR13
  have mk := HMK.out n (by omega) w
  obtain ⟨w2, hw2⟩ : ∃ w2, w2 = w.alloc (.cells (Z n) 59) := ⟨_, rfl⟩
  rw [← hw2] at mk
  have b2 : Below w.heap.size w w2 := by rw [hw2]; exact below_new (Below.refl _ _) _
  have o2 : w2.ownsRow w.heap.size 59 1 (.slice (some ⟨w.heap.size, 0, none⟩) 0 n) 0 (([] : List SlR).flatMap SlR.cells) := by rw [hw2]; exact World.ownsRow_made w (Z n) n (Nat.le_refl _) (by simp only [maxLen]; omega) (HZ.out _)
  have HI : Hid (∃ D, RowsIn w2 w.heap.size (.slice (some ⟨w.heap.size, 0, none⟩) 0 n) 0 D l) := ⟨[], rfl, o2, fun j x y hx => by simp at hx, fun j x hx => by simp at hx⟩
  have HW0 := Lib.hid hw; have HR := Lib.hid h; have HL := Lib.hid hlen; have B2 := Lib.hid b2; have HN := Lib.hid hn
  have HS : Hid (∀ (k : Nat) (y : LQ), l[k]? = some y → LineOk y) := by show ∀ k y, _; intro k y hy; exact hs y (List.mem_of_getElem? hy)
  clear hlen hw hs hw2 b2 o2 hn HZ HMK h
  go_enter Tryz.func52, Tryz.ntmps52
  go_wp2_with fail
  clear mk
  go_loopw [3, 11] (fun r i wr => ∃ (k : Nat), k ≤ n ∧ i = .int .i64 k ∧ Hid (∃ D, RowsIn wr w.heap.size r k D l) ∧ Hid (Below w.heap.size w wr)) (fun _ i _ => n - (intOf i).toNat)
  case atStart => exact ⟨0, Nat.zero_le _, rfl, HI, B2⟩
  case round =>
    clear HI B2
    obtain ⟨k, hk, rfl, HI, B2⟩ := hrel
    by_cases hlt : k < n
    · obtain ⟨b, o, xl, yl, rfl, hb, hx, hr, hc⟩ := HR.out.line13 hlt
      obtain ⟨d0, d1, d2⟩ := hc wr (below_then HW0.out B2.out)
      obtain ⟨D, hD⟩ := HI.out
      obtain ⟨wq, hwq⟩ : ∃ W, W = wr.alloc (lineBox xl) := ⟨_, rfl⟩
      have HWQ := Lib.hid hwq
      have bq : Below wr.heap.size wr wq := by rw [hwq]; exact below_new (Below.refl _ _) _
      have rq : wq.heap[wr.heap.size]? = some (lineBox xl) := by rw [hwq]; exact heap_alloc_new _ _
      obtain ⟨e0, e1, e2⟩ := line_row rq
      have SH := Lib.hid (row13_any xl yl w0 wq hr (below_then HW0.out (below_then B2.out bq)) (HS.out k yl hx))
      have HD := Lib.hid (hD.below bq)
      have BQ := Lib.hid bq
      have HX := Lib.hid hx
      have y1 : (k : Int) < (n : Int) := by omega
      have y0 : (0 : Int) ≤ (k : Int) := by omega
      clear hc hr hx hb hwq bq rq hD
      go_upto_region 5 with fail
      rw [show wr.alloc (Obj.cells #[Value.int .i64 xl.key, .slice xl.ca xl.cn xl.cc, .slice xl.ba xl.bn xl.bc] 37) = wq from HWQ.out.symm]
      clear HWQ d0 d1 d2
      go_wp2_with (first
        | (go_at_call 77; refine SH.out.mono ?_; rintro e w5 ⟨z, rfl, hz, b5, hf5⟩; have D5 := HD.out.below b5; obtain ⟨v', w6, hr6, o6, b6, s6, k6, at6⟩ := run_pushR13 (W0 := w) w.heap.size _ k D z D5.own (by have := HN.out; omega) w.heap.size (Nat.le_refl _) (below_then B2.out (below_then BQ.out b5)) (by have := B2.out.size; have := BQ.out.size; have := b5.size; omega) 53; have D6 := D5.push HX.out hz (fun h0 a ha e => by have h1 := hf5 h0 a ha; have h2 := (HD.out.own.lt _ e).2; omega) o6 (by omega) k6 at6)
        | (at_builtin; refine Lib.wpList_append_run _ rfl _ _ _ _ rfl _ _ rfl rfl _ _ hr6 ?_))
      exact ⟨⟨k + 1, by omega, by go_num, ⟨_, D6⟩, b6⟩, by simp [intOf]; omega⟩
    · have hke : n = k := by omega
      have y1 : ¬ (k : Int) < (n : Int) := by omega
      obtain ⟨D, hD⟩ := HI.out
      obtain ⟨A9, c9, rfl, hrd⟩ := hD.reads (by rw [HL.out, hke])
      have HRD := Lib.hid hrd
      clear hrd hD hke
      go_wp2_with fail
      go_ret
      exact ⟨⟨A9, k, c9⟩, rfl, HRD.out, B2.out⟩
set_option maxHeartbeats 1600000 in
theorem shown13_any (A : Option Addr) (n c : Nat) (b : List (List LQ)) (t : Int) (w0 w : World) (h : RdB w0 A n c b) (hw : Below w0.heap.size w0 w) (hb : BaseOk b) :
    Calls Tryz.prog 26 #[.agg #[.slice A n c], .int .i64 t] w fun e w' => ∃ z : SlR, e = .returned (.slice z.a z.n z.c) ∧ RdRws w' z.a z.n z.c ((linesB b t).map rowQ) ∧ Below w.heap.size w w' := by
  obtain ⟨w1, hw1⟩ : ∃ w1, w1 = (w.alloc (baseBox A n c)) := ⟨_, rfl⟩
  have HW := Lib.hid hw1
  have r0 : w1.heap[w.heap.size]? = some (baseBox A n c) := by rw [hw1]; exact new_row13 _ _ rfl
  have b1 : Below w.heap.size w w1 := by rw [hw1]; exact below_new (Below.refl _ _) _
  have sz : w1.heap.size = w.heap.size + 1 := by rw [hw1]; simp only [World.size_alloc]
  have p0 := base_row r0
  have T := Lib.hid (tableOf_any A n c b t w0 w1 h (below_then hw b1))
  have HW0 := Lib.hid hw
  have HOK : Hid (∀ y ∈ linesB b t, LineOk y) := by show ∀ y ∈ _, _; intro y hy; obtain ⟨l, h1, h2⟩ := linesB_mem hy; exact hb.each l h1 y h2
  have hln := linesB_len hb t
  obtain ⟨ll, hll⟩ : ∃ ll, Hid (linesB b t = ll) := ⟨_, rfl⟩
  rw [hll.out] at T HOK hln
  rw [hll.out]
  have RW : Hid (∀ (W : World) (z : SlR), Below w1.heap.size w1 W → RdLs w0 z.a z.n z.c ll → Calls Tryz.prog 52 #[.slice z.a z.n z.c] W fun e w' => ∃ u : SlR, e = .returned (.slice u.a u.n u.c) ∧ RdRws w' u.a u.n u.c (ll.map rowQ) ∧ Below W.heap.size W w') := by
    show ∀ W z, _; intro W z hW hz
    exact rows13_any z.a z.n z.c ll w0 W hz (below_then hw (below_then b1 hW)) HOK.out (by have := hz.len; omega)
  have FLD : ∀ (X Y Z : Value) (W : World), (Instr.field 83 (.agg #[X, Y, Z]) 0).run Tryz.prog W = .ok X W := fun X Y Z W => by kernel_rfl
  have B1 := Lib.hid b1
  clear h hw hb b1 sz hw1 r0 hln
  go_enter Tryz.func26, Tryz.ntmps26
  go_upto_region 1 with fail
  rw [show (w.alloc (baseBox A n c)) = w1 from HW.out.symm]
  clear HW
  go_wp2_with (first | (go_at_call 33; refine T.out.mono ?_; rintro e w2 ⟨z, rfl, hz, b2⟩; have HZ := Lib.hid hz; have B2 := Lib.hid b2; clear hz b2) | (go_at_call 52; refine (RW.out _ z B2.out HZ.out).mono ?_; rintro e w3 ⟨u, rfl, hu, b3⟩; have HU := Lib.hid hu; clear hu))
  go_ret
  exact ⟨u, rfl, HU.out, below_then (below_then B1.out B2.out) b3⟩
end Go.Proofs.YtfljhnalmiibeaaGreat

