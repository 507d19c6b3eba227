/- Layer 9: bag.Put. -/
import Derived.Test.YtomdbjmbkfdcmaaMbBagLib
import Derived.Deep.CutBlock
import Derived.Deep.DeepCutAuto
import Derived.Deep.RegionWith
namespace Go.Proofs.Ytomdbjmbkfdcmaa
set_option maxRecDepth 100000
open Go.RowKit Go.Sort

theorem run_uptoQ {A : Option Addr} {n c m : Nat} (h : m ≤ c) (W : World) : (Instr.slice 24 (.slice A n c) none (some (.int .i64 m)) none).run Try.prog W = .ok (.slice A m c) W := by
  have hz : (sizeOf (Try.prog.elem 24)).run Try.prog W = .ok 11 W := by kernel_rfl
  have ht : Try.prog.underlying 24 = some (.slice (Try.prog.elem 24)) := by kernel_rfl
  rw [run_slice_h (P := Try.prog) (w := W) (t := 24) (a := A) (len := n) (cap := c) (ht := ht) (kh := .i64) (h := m) (h0 := by omega) (h2 := by omega), hz]
  have ha : A.map (·.add (0 * 11)) = A := by cases A <;> simp [Addr.add]
  simp only [Result.andThen, sliced, ha, Int.toNat_natCast, Nat.sub_zero, ite_self]
def fromA (A : Option Addr) (c q : Nat) : Option Addr := if c = q then A else A.map (·.add (q * 11))
theorem run_fromQ {A : Option Addr} {n c q : Nat} (h : q ≤ n) (_ : n ≤ c) (W : World) : (Instr.slice 24 (.slice A n c) (some (.int .i64 q)) none none).run Try.prog W = .ok (.slice (fromA A c q) (n - q) (c - q)) W := by
  have hz : (sizeOf (Try.prog.elem 24)).run Try.prog W = .ok 11 W := by kernel_rfl
  have ht : Try.prog.underlying 24 = some (.slice (Try.prog.elem 24)) := by kernel_rfl
  rw [run_slice_l (P := Try.prog) (w := W) (t := 24) (a := A) (len := n) (cap := c) (ht := ht) (kl := .i64) (l := q) (h0 := by omega) (h1 := by omega), hz]
  simp only [Result.andThen, sliced, Int.toNat_natCast, fromA]
theorem rdp_from {w : World} {A : Option Addr} {n c : Nat} {l : List P11} (h : RdP w A n c l) {q : Nat} (hq : q ≤ n) : RdP w (fromA A c q) (n - q) (c - q) (l.drop q) := by
  obtain ⟨hl, h1, h2, hx⟩ := h
  refine ⟨by rw [List.length_drop, hl], by omega, by simp only [maxLen] at *; omega, fun h0 => ?_⟩
  obtain ⟨b, o, rfl, hb, hc⟩ := hx (by omega)
  rw [fromA, if_neg (by omega)]
  refine ⟨b, o + q * 11, ?_, hb, fun j hj i v hv => ?_⟩
  · simp only [Option.map_some, Addr.add]
    by_cases h0 : q * 11 = 0 <;> simp [h0]
  · rw [List.length_drop] at hj
    have := hc (q + j) (by omega) i v (by rw [List.getElem_drop] at hv; exact hv)
    rw [← this]
    congr 2
    rw [Nat.add_mul]; omega
theorem placeB_idx (l : List P11) (s : Sp) : idxF (fun p => ltQ s (spP p)) l = -1 ∧ placeB l s = l.length ∨ idxF (fun p => ltQ s (spP p)) l = (placeB l s : Nat) := by
  unfold idxF placeB
  split
  · exact .inr rfl
  · rename_i h
    refine .inl ⟨rfl, ?_⟩
    rw [List.findIdx_eq_length]
    intro x hx
    rw [Bool.not_eq_true, List.any_eq_false] at h
    simpa using h x hx
theorem Try.egTaken : ∀ args w, (callFunc 59 args).run Try.prog w = .ok (.enter 59 args) w := enters_of Try.func59 (by kernel_rfl) rfl
theorem Try.egAhead : ∀ args w, (callFunc 45 args).run Try.prog w = .ok (.enter 45 args) w := enters_of Try.func45 (by kernel_rfl) rfl
theorem tells_taken (s : Sp) (w : World) : TellsR Try.prog 59 s.agg (fun p => decide (spP p = s)) w := fun W _ x => (taken_any s x W).mono fun _ _ h => ⟨h.1, h.2.below⟩
theorem tells_ahead (s : Sp) (w : World) : TellsR Try.prog 45 s.agg (fun p => ltQ s (spP p)) w := fun W _ x => (ahead_any s x W).mono fun _ _ h => ⟨h.1, h.2.below⟩

/-- how Put stands: the boxes of the call -/
structure PutAt (g3 g6 g7 : Nat) (ka : Int) (va : V3) (S : Value) (s : Sp) (w W : World) : Prop where
  r3 : W.heap[g3]? = some (cellRow ka va S)
  r6 : W.heap[g6]? = some (cellRow 0 ⟨0, 0, ⟨#[]⟩⟩ (.slice none 0 0))
  r7 : W.heap[g7]? = some (spotRow s)
  bel : Below w.heap.size w W
theorem PutAt.below {g3 g6 g7 : Nat} {ka : Int} {va : V3} {S : Value} {s : Sp} {w W W' : World} (h : PutAt g3 g6 g7 ka va S s w W) (hb : Below W.heap.size W W') : PutAt g3 g6 g7 ka va S s w W' :=
  ⟨row_below h.r3 hb, row_below h.r6 hb, row_below h.r7 hb, below_then h.bel hb⟩

set_option maxHeartbeats 12800000 in
theorem putB_any (ka : Int) (va : V3) (A : Option Addr) (n c : Nat) (l : List P11) (m : Int) (d : D2) (w : World) (ha : RdP w A n c l) (hn : n ≤ 4294967000) :
    Calls Try.prog 22 #[cellV ka va (.slice A n c), .int .i64 m, d.agg] w fun e w' =>
      ∃ A' c', e = .returned (cellV ka va (.slice A' (putB l ⟨m, d⟩).length c')) ∧ RdP w' A' (putB l ⟨m, d⟩).length c' (putB l ⟨m, d⟩) ∧ Below w.heap.size w w' := by
  obtain ⟨s, hs⟩ : ∃ s : Sp, s = ⟨m, d⟩ := ⟨_, rfl⟩
  obtain ⟨w2, hw2⟩ : ∃ w2, w2 = (((w.alloc (cellRow ka va (.slice A n c))).alloc (dotRow d)).alloc (cellRow 0 ⟨0, 0, ⟨#[]⟩⟩ (.slice none 0 0))).alloc (spotRow s) := ⟨_, rfl⟩
  obtain ⟨w1, hw1⟩ : ∃ w1, w1 = ((w.alloc (cellRow ka va (.slice A n c))).alloc (dotRow d)).alloc (cellRow 0 ⟨0, 0, ⟨#[]⟩⟩ (.slice none 0 0)) := ⟨_, rfl⟩
  have hs1 : w1.heap.size = w.heap.size + 3 := by rw [hw1]; simp
  have h6 : w1.heap[w.heap.size + 1]? = some (dotRow d) := by rw [hw1]; exact old_at _ (new_at _ _ _ (by simp))
  rw [← hw1] at hw2
  have PA : PutAt w.heap.size (w.heap.size + 1 + 1) w1.heap.size ka va (.slice A n c) s w w2 := by
    refine ⟨?_, ?_, ?_, ?_⟩
    · rw [hw2]; refine old_at _ ?_; rw [hw1]; exact old_at _ (old_at _ (heap_alloc_new w _))
    · rw [hw2]; refine old_at _ ?_; rw [hw1]; exact new_at _ _ _ (by simp)
    · rw [hw2]; exact heap_alloc_new _ _
    · rw [hw2, hw1]; exact below_new (below_new (below_new (below_new (Below.refl _ _) _) _) _) _
  have hg : w.heap.size < w1.heap.size ∧ w.heap.size + 1 + 1 < w1.heap.size ∧ w1.heap.size < w2.heap.size ∧ w.heap.size ≠ w.heap.size + 1 + 1 ∧ w.heap.size ≤ w.heap.size + 1 + 1 := by refine ⟨by omega, by omega, by rw [hw2]; simp, by omega, by omega⟩
  have HRD := Lib.hid (ha.below PA.bel)
  have HA := Lib.hid PA
  have HG := Lib.hid hg
  obtain ⟨d0, d1⟩ := dot_row h6
  have HS := Lib.hid hs
  have HL := Lib.hid ha.len
  have hcap := ha.cap
  have hle := ha.le
  rw [← hs]
  obtain ⟨F, hF⟩ : ∃ F, Hid (putB l s = F) := ⟨_, rfl⟩
  obtain ⟨N, hN⟩ : ∃ N, Hid (F.length = N) := ⟨_, rfl⟩
  rw [hF.out, hN.out]
  have CT := Lib.hid (fun W (hW : Below w2.heap.size w2 W) => containsFunc_any 59 s.agg (fun p => decide (spP p = s)) A n c l W Try.egTaken (HRD.out.below hW) (tells_taken s W))
  have IX := Lib.hid (fun W (hW : Below w2.heap.size w2 W) => indexFunc_any 45 s.agg (fun p => ltQ s (spP p)) A n c l W Try.egAhead (HRD.out.below hW) (tells_ahead s W))
  have CL := Lib.hid (fun W (hW : Below w2.heap.size w2 W) => cloneP_any A n c l W (HRD.out.below hW) (by omega))
  have HW1 := Lib.hid hw1; have HW2 := Lib.hid hw2
  have hse : s.n = m ∧ s.d.d = d.d ∧ s.d.s = d.s := by rw [hs]; exact ⟨rfl, rfl, rfl⟩
  clear ha PA h6 hs hs1 hw1 hw2 hg
  have a4 := (cell_row5 (HA.out.r3)).2.2.2.2
  have x4 := (cell_row5 (show w1.heap[w.heap.size]? = some (cellRow ka va (.slice A n c)) by rw [HW1.out]; exact old_at _ (old_at _ (heap_alloc_new w _)))).2.2.2.2
  obtain ⟨s0, s1, s2⟩ := spot_row HA.out.r7
  obtain ⟨rr, hrr⟩ : ∃ rr, Hid (inB l s = rr) := ⟨_, rfl⟩
  have CT2 : Hid (Calls Try.prog 58 #[.slice A n c, .func (.func 59) #[s.agg] #[]] w2 fun e w' => e = .returned (.bool rr) ∧ Below w2.heap.size w2 w') := by
    have := CT.out w2 (Below.refl _ _)
    rw [show (l.any fun p => decide (spP p = s)) = rr from hrr.out] at this
    exact this
  go_enter Try.func22, Try.ntmps22
  go_upto_region 1 with fail
  rw [show ((w.alloc (cellRow ka va (.slice A n c))).alloc (dotRow d)).alloc (cellRow 0 ⟨0, 0, ⟨#[]⟩⟩ (.slice none 0 0)) = w1 from HW1.out.symm]
  clear HW1 x4
  go_upto_region 2 with fail
  rw [show w1.alloc (Obj.cells #[.int .i64 m, .int .i64 d.d, .int .i64 d.s] 70) = w2 by rw [HW2.out, spotRow, hse.1, hse.2.1, hse.2.2]]
  clear HW2 d0 d1 hse
  generalize w1.heap.size = g7 at HA HG s0 s1 s2 ⊢
  generalize w.heap.size + 1 + 1 = g6 at HA HG ⊢
  go_wp2_with fail
  refine CT2.out.mono ?_
  rintro e w3 ⟨rfl, b3⟩
  have HA3 := Lib.hid (HA.out.below b3)
  have HB3 := Lib.hid b3
  have hs3 : g7 < w3.heap.size := Nat.lt_of_lt_of_le HG.out.2.2.1 b3.size
  have HS3 := Lib.hid hs3
  clear CT CT2 b3 a4 s0 s1 s2 hs3
  have a4 := (cell_row5 (HA3.out.r3)).2.2.2.2
  obtain ⟨s0, s1, s2⟩ := spot_row HA3.out.r7
  cases rr with
  | true =>
    have HP : Hid (F = l) := by show _ = _; rw [← hF.out]; exact if_pos hrr.out
    have HNn : Hid (N = n) := by show _ = _; rw [← hN.out, HP.out, HL.out]
    have CC := Lib.hid (CL.out w3 HB3.out)
    clear IX CL
    go_wp2_with fail
    refine CC.out.mono ?_
    rintro e w4 ⟨A', c', rfl, hrd4, b4, hA4⟩
    have HA4 := HA3.out.below b4
    have hs4 := HS3.out
    obtain ⟨w5, hw5⟩ : ∃ w5, w5 = w4.setCell ⟨w.heap.size, 4, none⟩ (.slice A' n c') := ⟨_, rfl⟩
    have q3 : w5.heap[w.heap.size]? = some (cellRow ka va (.slice A' n c')) := by rw [hw5, set_row HA4.r3 4]; rfl
    have q6 : w5.heap[g6]? = some (cellRow 0 ⟨0, 0, ⟨#[]⟩⟩ (.slice none 0 0)) := by rw [hw5]; exact row_other HA4.r6 (Ne.symm HG.out.2.2.2.1) _ _
    have hA1 : ∀ a, A' = some a → a.block ≠ w.heap.size := fun a ha => by have h1 := hA4 a ha; have h2 := HG.out; omega
    have HA2 : Hid (∀ a, A' = some a → a.block ≠ g6) := fun a ha => by have h1 := hA4 a ha; have h2 := HG.out; omega
    have RD5 : Hid (RdP w5 A' n c' l) := by rw [hw5]; exact rd_set1 hrd4 _ hA1 _ _
    have BB5 : Hid (Below w.heap.size w w5) := by rw [hw5]; exact HA4.bel.setCell (Nat.le_refl _) _
    have f4 := frozen_row HA4.r3
    obtain ⟨v0, v1, v2, v3, v4⟩ := cell_row5 HA4.r3
    obtain ⟨t0, t1, t2, t3, t4⟩ := cell_row5 q3
    obtain ⟨k0, k1, k2, k3, k4⟩ := cell_row5 q6
    have f6 := frozen_row q6
    have HQ6 := Lib.hid q6
    replace hw5 := Lib.hid hw5
    clear HA4 hrd4 b4 hA4 hA1 q3 q6 CC
    go_upto_region 4 with fail
    rw [show w4.setCell ⟨w.heap.size, 4, none⟩ (.slice A' n c') = w5 from hw5.out.symm]
    clear hw5
    go_wp2_with fail
    refine bodyPost_ret (v := cellV ka va (.slice A' n c')) (results_cell_row rfl _ _ g6 26 _ (0, 0) _ rfl (set5 HQ6.out) Try.underlying26 rfl (by kernel_rfl)) rfl ?_
    rw [HNn.out, HP.out]
    exact ⟨A', c', rfl, rd_set5 RD5.out _ HA2.out _ _ _ _ _, below_put5 BB5.out HG.out.2.2.2.2 _ _ _ _ _⟩
  | false =>
    have HP : Hid (F = insB l (partB s)) := by show _ = _; rw [← hF.out]; exact if_neg (by rw [hrr.out]; decide)
    have HNn : Hid (N = n + 1) := by show _ = _; rw [← hN.out, HP.out, insB_len, HL.out]
    obtain ⟨q, hq⟩ : ∃ q, Hid (placeB l s = q) := ⟨_, rfl⟩
    have hqn : q ≤ n := by rw [← hq.out, ← HL.out]; exact placeB_le l s
    obtain ⟨R, hR⟩ : ∃ R, Hid (idxF (fun p => ltQ s (spP p)) l = R) := ⟨_, rfl⟩
    have hRq : Hid ((R = -1 ∧ q = n) ∨ R = (q : Nat)) := by
      rw [← hq.out, ← hR.out, ← HL.out]; exact placeB_idx l s
    have IX3 : Hid (Calls Try.prog 61 #[.slice A n c, .func (.func 45) #[s.agg] #[]] w3 fun e w' => e = .returned (.int .i64 R) ∧ Below w3.heap.size w3 w') := by
      have := IX.out w3 HB3.out
      rw [hR.out] at this
      exact this
    clear IX CL
    go_wp2_with fail
    refine IX3.out.mono ?_
    rintro e w4 ⟨rfl, b4⟩
    have HA4 := Lib.hid (HA3.out.below b4)
    have HB4 := Lib.hid (below_then HB3.out b4)
    have HS4 : Hid (g7 < w4.heap.size) := Nat.lt_of_lt_of_le HS3.out b4.size
    clear IX3 b4 a4 s0 s1 s2 HA3 HB3 HS3
    have a4 := (cell_row5 (HA4.out.r3)).2.2.2.2
    go_upto_if 28 with fail
    go_cut [8] from 29 to 31 (fun u wz => u = .int .i64 q ∧ wz = w4)
    case first =>
      rcases hRq.out with ⟨h1, h2⟩ | h1
      · obtain rfl := h1
        go_wp2_with fail
        go_meet
        exact ⟨by rw [h2], rfl⟩
      · subst h1
        have h2 : ¬ ((q : Int) < 0) := by omega
        go_wp2_with fail
        go_meet
        exact ⟨rfl, rfl⟩
    case rest =>
    obtain ⟨rfl, rfl⟩ := hcut
    clear hR hRq
    obtain ⟨w4, rfl⟩ : ∃ w4, w4 = wc := ⟨_, rfl⟩
    obtain ⟨s0, s1, s2⟩ := spot_row HA4.out.r7
    have z1 : (0 : Int) ≤ (q : Int) := by omega
    have z2 : (q : Int) ≤ (n : Int) := by omega
    have z3 : (q : Int) ≤ (c : Int) := by omega
    have z4 : q ≤ c := by omega
    have z5 := hcap
    have E1 := fun W => run_uptoQ (A := A) (n := n) (c := c) (m := q) z4 W
    have E2 := fun W => run_fromQ (A := A) (n := n) (c := c) (q := q) hqn hcap W
    obtain ⟨A2, hA2e⟩ : ∃ A2, Hid (fromA A c q = A2) := ⟨_, rfl⟩
    obtain ⟨n2, hn2⟩ : ∃ n2, Hid (n - q = n2) := ⟨_, rfl⟩
    obtain ⟨c2, hc2⟩ : ∃ c2, Hid (c - q = c2) := ⟨_, rfl⟩
    rw [hA2e.out, hn2.out, hc2.out] at E2
    have PT := Lib.hid (fun W => partOf_any s W)
    have K : Hid (∀ W, Below w4.heap.size w4 W → W.cell? ⟨w.heap.size, 4, none⟩ = some (.slice A n c) ∧ W.frozen? ⟨w.heap.size, 4, none⟩ = false ∧ W.cell? ⟨g7, 0, none⟩ = some (.int .i64 s.n) ∧ W.cell? ⟨g7, 1, none⟩ = some (.int .i64 s.d.d) ∧ W.cell? ⟨g7, 2, none⟩ = some (.int .i64 s.d.s)) := by
      intro W hW
      have h := HA4.out.below hW
      obtain ⟨t0, t1, t2⟩ := spot_row h.r7
      exact ⟨(cell_row5 h.r3).2.2.2.2, frozen_row h.r3 4, t0, t1, t2⟩
    have CC : Hid (∀ W, Below w4.heap.size w4 W → Calls Try.prog 62 #[.slice (some ⟨W.heap.size + 1, 0, none⟩) 3 3] ((W.alloc (partCells (partB s))).alloc (catCells (.slice A q c) (.slice (some ⟨W.heap.size, 0, none⟩) 1 1) (.slice A2 n2 c2))) fun e w' =>
        ∃ A' c', e = .returned (.slice A' N c') ∧ RdP w' A' N c' F ∧ Below W.heap.size W w' ∧ ∀ a, A' = some a → W.heap.size ≤ a.block) := by
      intro W hW
      obtain ⟨W2, hW2⟩ : ∃ W2, W2 = (W.alloc (partCells (partB s))).alloc (catCells (.slice A q c) (.slice (some ⟨W.heap.size, 0, none⟩) 1 1) (.slice A2 n2 c2)) := ⟨_, rfl⟩
      have b2 : Below W.heap.size W W2 := by rw [hW2]; exact below_new (below_new (Below.refl _ _) _) _
      have hcat : W2.heap[W.heap.size + 1]? = some (catCells (.slice A q c) (.slice (some ⟨W.heap.size, 0, none⟩) 1 1) (.slice A2 n2 c2)) := by rw [hW2]; exact new_at _ _ _ (by simp)
      have hl := (HRD.out.below (below_then HB4.out hW)).below b2
      have r1 : RdP W2 A q c (l.take q) := hl.upto hqn z4 (Nat.le_refl _)
      have r2 : RdP W2 (some ⟨W.heap.size, 0, none⟩) 1 1 [partB s] := by
        rw [hW2]
        exact (rdg_new p11len W [partB s] _ _ (by simp [P11.cells]) (n := 1) rfl (by omega) rfl).alloc _
      have r3 : RdP W2 A2 n2 c2 (l.drop q) := by rw [← hA2e.out, ← hn2.out, ← hc2.out]; exact rdp_from hl hqn
      rw [← hW2]
      have hNq : q + 1 + n2 = N := by have h1 := HNn.out; have h2 := hn2.out; omega
      have hFq : l.take q ++ [partB s] ++ l.drop q = F := by rw [HP.out, insB_place, spP_partB, hq.out]; simp
      have := concat3_any (W.heap.size + 1) A q c (l.take q) (some ⟨W.heap.size, 0, none⟩) 1 1 [partB s] A2 n2 c2 (l.drop q) W2 hcat r1 r2 r3 (by omega) (by have h1 := HNn.out; omega)
      rw [hNq, hFq] at this
      refine this.mono ?_
      rintro e w' ⟨A', c', he, hrd, hb, ha⟩
      exact ⟨A', c', he, hrd, below_then b2 hb, fun a h => Nat.le_trans b2.size (ha a h)⟩
    go_upto_region 8 with fail
    go_cut [8] from 32 to 45 (fun u wz => u = .int .i64 q ∧ ∃ A' c', Hid (wz.heap[w.heap.size]? = some (cellRow ka va (.slice A' N c'))) ∧ Hid (RdP wz A' N c' F) ∧ Hid (wz.heap[g6]? = some (cellRow 0 ⟨0, 0, ⟨#[]⟩⟩ (.slice none 0 0))) ∧ Hid (Below w.heap.size w wz) ∧ Hid (∀ a, A' = some a → a.block ≠ g6))
    case first =>
      go_region_with (first
        | (go_at_call 63; refine (PT.out _).mono ?_; rintro e wx ⟨rfl, bg⟩; have bb := below_then (by first | exact (Below.refl w4.heap.size w4).drew) bg.below; clear bg; obtain ⟨k0, k1, k2, k3, k4⟩ := K.out _ bb; have kk := fun o => (World.cell?_alloc_lt wx o ⟨w.heap.size, 4, none⟩ (World.block_lt_of_cell? _ _ k0)).trans k0)
        | (go_at_call 62; refine (CC.out wx bb).mono ?_; rintro e wy ⟨A', c', rfl, hrd, by', hA'⟩; have bz := below_then bb by'; obtain ⟨y0, y1, y2, y3, y4⟩ := K.out _ bz; have HR3 := Lib.hid (HA4.out.below bz).r3; have HR6 := Lib.hid (HA4.out.below bz).r6; have HBZ := Lib.hid (HA4.out.below bz).bel; have HRD5 := Lib.hid hrd; have HA5 := Lib.hid hA'; have HSX := Lib.hid bb.size; clear hrd hA' by' bz))
      all_goals
        have g1 := HG.out; have g2 := HS4.out; have g3 := HSX.out
        have T1 := Lib.hid (set_row HR3.out 4 (.slice A' N c'))
        have T2 : Hid (RdP (wy.setCell ⟨w.heap.size, 4, none⟩ (.slice A' N c')) A' N c' F) := rd_set1 HRD5.out _ (fun a ha => by have h1 := HA5.out a ha; omega) _ _
        have T3 : Hid ((wy.setCell ⟨w.heap.size, 4, none⟩ (.slice A' N c')).heap[g6]? = some (cellRow 0 ⟨0, 0, ⟨#[]⟩⟩ (.slice none 0 0))) := row_other HR6.out (Ne.symm g1.2.2.2.1) _ _
        have T4 : Hid (Below w.heap.size w (wy.setCell ⟨w.heap.size, 4, none⟩ (.slice A' N c'))) := HBZ.out.setCell (Nat.le_refl _) _
        have T5 : Hid (∀ a, A' = some a → a.block ≠ g6) := fun a ha => by have h1 := HA5.out a ha; omega
        clear g1 g2 g3
        go_wp2_with fail
        go_meet
        exact ⟨rfl, A', c', T1, T2, T3, T4, T5⟩
    case rest =>
    obtain ⟨rfl, A', c', q3, RD5, HQ6, BB5, HA2⟩ := hcut
    obtain ⟨w5, rfl⟩ : ∃ w5, w5 = wc := ⟨_, rfl⟩
    obtain ⟨t0, t1, t2, t3, t4⟩ := cell_row5 q3.out
    obtain ⟨k0, k1, k2, k3, k4⟩ := cell_row5 HQ6.out
    have f6 := frozen_row HQ6.out
    clear K PT E1 E2 CC
    go_wp2_with fail
    refine bodyPost_ret (v := cellV ka va (.slice A' N c')) (results_cell_row rfl _ _ g6 26 _ (0, 0) _ rfl (set5 HQ6.out) Try.underlying26 rfl (by kernel_rfl)) rfl ?_
    exact ⟨A', c', rfl, rd_set5 RD5.out _ HA2.out _ _ _ _ _, below_put5 BB5.out HG.out.2.2.2.2 _ _ _ _ _⟩
end Go.Proofs.Ytomdbjmbkfdcmaa

