/- Several texts laid together: MulVal, MulShow, MulVals, MulPushV, MulSrt, Shelf, MulSortV, MulAl. -/
import Derived.Test.YtieaobeidlhefaaMbJoin
import Derived.Test.YtieaobeidlhefaaValPlain
import Derived.Test.YtieaobeidlhefaaKMem
import Derived.Test.YtieaobeidlhefaaValEq
import Derived.BigQuiet
import Derived.Deep.RegionHeld3
import Derived.Shelf.SlSortCmp.InsertionK
import Derived.Shelf.SlSortCmp.NoneTotal
import Derived.Test.YtieaobeidlhefaaProg
import Derived.Test.YtieaobeidlhefaaMbRight
namespace Go.Proofs.Ytieaobeidlhefaa
set_option maxRecDepth 100000
open Go.RowKit Go.Sort Srt

def ltV (x y : V3) : Bool := lessZ x.k x.n x.s y.k y.n y.s
theorem ltV_irr (x : V3) : ltV x x = false := by simp [ltV, lessZ, List.lt_irrefl]
theorem ltV_asym {x y : V3} (h : ltV x y = true) : ltV y x = false := by
  simp only [ltV, lessZ, Bool.or_eq_true, Bool.and_eq_true, decide_eq_true_eq] at h
  rw [Bool.eq_false_iff]
  intro h2
  simp only [ltV, lessZ, Bool.or_eq_true, Bool.and_eq_true, decide_eq_true_eq] at h2
  rcases h with (h | ⟨h, h3⟩) | ⟨⟨h, h3⟩, h4⟩ <;> rcases h2 with (g | ⟨g, g3⟩) | ⟨⟨g, g3⟩, g4⟩ <;> first | omega | exact absurd g4 (List.lt_asymm h4)
theorem ltV_trans {x y z : V3} (h : ltV x y = true) (h2 : ltV y z = true) : ltV x z = true := by
  simp only [ltV, lessZ, Bool.or_eq_true, Bool.and_eq_true, decide_eq_true_eq] at h h2 ⊢
  rcases h with (h | ⟨h, h3⟩) | ⟨⟨h, h3⟩, h4⟩ <;> rcases h2 with (g | ⟨g, g3⟩) | ⟨⟨g, g3⟩, g4⟩
  all_goals first | (left; left; omega) | (left; right; omega) | exact .inr ⟨⟨by omega, by omega⟩, List.lt_trans h4 g4⟩
theorem ltV_tot {x y : V3} (h : ltV x y = false) (h2 : ltV y x = false) : x = y := by
  obtain ⟨k, n, s⟩ := x
  obtain ⟨k', n', s'⟩ := y
  have key : ∀ {x : Bool}, x = false → x = true → False := fun a b => by rw [a] at b; cases b
  have hk : k = k' := by
    have a : ¬ k < k' := fun e => key h (by simp [ltV, lessZ, e])
    have b : ¬ k' < k := fun e => key h2 (by simp [ltV, lessZ, e])
    omega
  subst hk
  have hn : n = n' := by
    have a : ¬ n < n' := fun e => key h (by simp [ltV, lessZ, e])
    have b : ¬ n' < n := fun e => key h2 (by simp [ltV, lessZ, e])
    omega
  subst hn
  have hs : s = s' := by
    have a : ¬ s.data.toList < s'.data.toList := fun e => key h (by simp only [ltV, lessZ]; simp [e])
    have b : ¬ s'.data.toList < s.data.toList := fun e => key h2 (by simp only [ltV, lessZ]; simp [e])
    exact ByteArray.ext (Array.toList_inj.1 (List.le_antisymm (List.not_lt.1 b) (List.not_lt.1 a)))
  subst hs
  rfl
theorem ltV_ntrans {x y z : V3} (h : ltV x y = false) (h2 : ltV y z = false) : ltV x z = false := by
  rw [Bool.eq_false_iff]
  intro h3
  cases h4 : ltV y x with
  | true => rw [ltV_trans h4 h3] at h2; cases h2
  | false =>
    obtain rfl := ltV_tot h h4
    rw [h3] at h2; cases h2
theorem sameZ_iff (x y : V3) : sameZ x.k x.n x.s y.k y.n y.s = decide (x = y) := by
  obtain ⟨k, n, s⟩ := x
  obtain ⟨k', n', s'⟩ := y
  simp only [sameZ, V3.mk.injEq]
  by_cases h1 : k = k' <;> by_cases h2 : n = n' <;> by_cases h3 : s = s' <;> simp [h1, h2, h3]

set_option maxHeartbeats 800000 in
theorem less_grown (x y : V3) (w : World) : Calls Try.prog 69 #[x.agg, y.agg] w fun e w' => e = .returned (.bool (ltV x y)) ∧ Grown w w' := by
  obtain ⟨k, n, s⟩ := x
  obtain ⟨k', n', s'⟩ := y
  rcases Decidable.em (k = k') with rfl | hk <;> rcases Decidable.em (n = n') with rfl | hn
  all_goals
    go_enter Try.func69, Try.ntmps69
    go_wp2
  all_goals go_ret
  all_goals refine ⟨?_, by first | exact ((Grown.refl _).alloc _).alloc _⟩
  all_goals simp_all [ltV, lessZ, strLess]
  all_goals try omega

def cmpV (x y : V3) : Int := if ltV x y then -1 else if ltV y x then 1 else 0
theorem ltOf_cmpV : ltOf cmpV = ltV := by
  funext x y
  unfold ltOf cmpV
  cases ltV x y <;> cases ltV y x <;> rfl
theorem swoV : SWO (ltOf cmpV) := by
  rw [ltOf_cmpV]
  exact ⟨ltV_irr, fun _ _ _ => ltV_trans, fun _ _ _ => ltV_ntrans⟩

set_option maxHeartbeats 1600000 in
theorem cmpVals_any (x y : V3) (w : World) : Calls Try.prog 71 #[x.agg, y.agg] w fun e w' => e = .returned (.int .i64 (cmpV x y)) ∧ Grown w w' := by
  have HB := Lib.hid (((Grown.refl w).alloc (valRow x)).alloc (valRow y))
  have R1 := Lib.hid (row_below (heap_alloc_new w (valRow x)) (below_new (Below.refl _ _) (valRow y)))
  have R2 : Hid (((w.alloc (valRow x)).alloc (valRow y)).heap[w.heap.size + 1]? = some (valRow y)) := by
    have := heap_alloc_new (w.alloc (valRow x)) (valRow y)
    rwa [World.size_alloc] at this
  obtain ⟨w1, hw1⟩ : ∃ w1, w1 = (w.alloc (valRow x)).alloc (valRow y) := ⟨_, rfl⟩
  have HW1 := Lib.hid hw1
  rw [← hw1] at HB R1 R2
  clear hw1
  obtain ⟨x0, x1, x2⟩ := val_row R1.out
  obtain ⟨y0, y1, y2⟩ := val_row R2.out
  obtain ⟨p, hp⟩ : ∃ p, Hid (ltV x y = p) := ⟨_, rfl⟩
  obtain ⟨q, hq⟩ : ∃ q, Hid (ltV y x = q) := ⟨_, rfl⟩
  have C1 : Hid (∀ W : World, Calls Try.prog 69 #[x.agg, y.agg] W fun e w' => e = .returned (.bool p) ∧ Grown W w') := by intro W; rw [← hp.out]; exact less_grown x y W
  have C2 : Hid (∀ W : World, Calls Try.prog 69 #[y.agg, x.agg] W fun e w' => e = .returned (.bool q) ∧ Grown W w') := by intro W; rw [← hq.out]; exact less_grown y x W
  have HF : Hid (cmpV x y = if p then -1 else if q then 1 else 0) := by show _ = _; rw [cmpV, hp.out, hq.out]
  obtain ⟨F, hF⟩ : ∃ F, Hid (cmpV x y = F) := ⟨_, rfl⟩
  rw [hF.out] at HF ⊢
  clear hp hq hF
  go_enter Try.func71, Try.ntmps71
  go_upto_region 1 with fail
  rw [show (w.alloc (Obj.cells #[Value.int .i64 x.k, .int .i64 x.n, .string x.s] 23)).alloc (Obj.cells #[Value.int .i64 y.k, .int .i64 y.n, .string y.s] 23) = w1 from HW1.out.symm]
  clear HW1
  go_wp2_with fail
  refine (C1.out _).mono ?_
  rintro e w2 ⟨rfl, b2⟩
  replace R1 := Lib.hid (row_below R1.out b2.below)
  replace R2 := Lib.hid (row_below R2.out b2.below)
  replace HB := Lib.hid (HB.out.trans b2)
  obtain ⟨x0, x1, x2⟩ := val_row R1.out
  obtain ⟨y0, y1, y2⟩ := val_row R2.out
  clear b2 C1
  cases p with
  | true =>
    have HF2 : Hid (F = -1) := by rw [HF.out]; rfl
    go_wp2_with fail
    go_ret
    exact ⟨ret_int HF2.out.symm, HB.out⟩
  | false =>
    go_wp2_with fail
    refine (C2.out _).mono ?_
    rintro e w3 ⟨rfl, b3⟩
    replace HB := Lib.hid (HB.out.trans b3)
    clear b3 C2
    cases q with
    | true =>
      have HF2 : Hid (F = 1) := by rw [HF.out]; rfl
      go_wp2_with fail
      go_ret
      exact ⟨ret_int HF2.out.symm, HB.out⟩
    | false =>
      have HF2 : Hid (F = 0) := by rw [HF.out]; rfl
      go_wp2_with fail
      go_ret
      exact ⟨ret_int HF2.out.symm, HB.out⟩

/-- the greatest one -/
def topL : List V3 → V3
  | [] => ⟨0, 0, ⟨#[]⟩⟩
  | x :: l => l.foldl (fun t v => if ltV t v then v else t) x
theorem topL_one (x : V3) : topL [x] = x := rfl
theorem topL_more {l : List V3} (h : l ≠ []) (x : V3) : topL (l ++ [x]) = if ltV (topL l) x then x else topL l := by
  match l, h with
  | y :: l, _ =>
    show (l ++ [x]).foldl _ y = _
    rw [List.foldl_append]; rfl
theorem topL_is : ∀ (l : List V3) (x : V3), l.foldl (fun t v => if ltV t v then v else t) x ∈ x :: l ∧ ∀ v ∈ x :: l, ltV (l.foldl (fun t v => if ltV t v then v else t) x) v = false
  | [], x => ⟨by simp, fun v hv => by simp at hv; subst hv; exact ltV_irr _⟩
  | y :: l, x => by
    obtain ⟨h1, h2⟩ := topL_is l (if ltV x y then y else x)
    rw [List.foldl_cons]
    refine ⟨?_, fun v hv => ?_⟩
    · rcases List.mem_cons.1 h1 with h | h
      · rw [h]; split <;> simp
      · exact List.mem_cons_of_mem _ (List.mem_cons_of_mem _ h)
    · have h0 := h2 _ (List.mem_cons_self ..)
      rcases List.mem_cons.1 hv with rfl | hv
      · split at h0
        · rename_i hlt
          rw [if_pos hlt]
          exact ltV_ntrans h0 (ltV_asym hlt)
        · rename_i hlt
          rw [if_neg hlt]; exact h0
      · rcases List.mem_cons.1 hv with rfl | hv
        · split at h0
          · rename_i hlt
            rw [if_pos hlt]; exact h0
          · rename_i hlt
            rw [if_neg hlt]
            exact ltV_ntrans h0 (by simpa using hlt)
        · exact h2 _ (List.mem_cons_of_mem _ hv)
theorem topL_mem {l : List V3} (h : l ≠ []) : topL l ∈ l := by
  match l, h with
  | x :: l, _ => exact (topL_is l x).1
theorem topL_top {l : List V3} {v : V3} (h : v ∈ l) : ltV (topL l) v = false := by
  match l, h with
  | x :: l, h => exact (topL_is l x).2 v h
end Go.Proofs.Ytieaobeidlhefaa

namespace Go.Proofs.Ytieaobeidlhefaa
set_option maxRecDepth 100000
open Go.RowKit Go.Sort Srt

abbrev zeroVal : V3 := ⟨0, 0, ⟨#[]⟩⟩
def P11.val (p : P11) : V3 := p.v
theorem val3 {w : World} {g : Nat} {a b c x y z : Value} {t : TypeId} {fr : Nat × Nat} (h : w.heap[g]? = some (.cells #[a, b, c] t fr)) :
    (((w.setCell ⟨g, 0, none⟩ x).setCell ⟨g, 1, none⟩ y).setCell ⟨g, 2, none⟩ z).heap[g]? = some (.cells #[x, y, z] t fr) := set3 h
theorem set3_other {w : World} {g g' : Nat} {x y z : Value} (hg : g ≠ g') : (((w.setCell ⟨g, 0, none⟩ x).setCell ⟨g, 1, none⟩ y).setCell ⟨g, 2, none⟩ z).heap[g']? = w.heap[g']? := by
  have ho : ∀ (w : World) (j : Nat) (x : Value), (w.setCell ⟨g, j, none⟩ x).heap[g']? = w.heap[g']? := fun w j x => by
    show (w.heap.modify g _)[g']? = _
    rw [Array.getElem?_modify, if_neg hg]
  rw [ho, ho, ho]
theorem vals_take {l : List P11} {k : Nat} {x : P11} (h : l[k]? = some x) : (l.take (k + 1)).map P11.val = (l.take k).map P11.val ++ [x.v] := by
  rw [List.take_add_one, h]; simp [P11.val]
theorem vals_ne {l : List P11} {k : Nat} {x : P11} (h : l[k]? = some x) (h0 : 0 < k) : (l.take k).map P11.val ≠ [] := by
  intro e
  have h1 := (List.getElem?_eq_some_iff.1 h).1
  have h2 : ((l.take k).map P11.val).length = 0 := by rw [e]; rfl
  rw [List.length_map, List.length_take] at h2
  omega

set_option maxHeartbeats 3200000 in
theorem show_any (ka : Int) (va : V3) (A : Option Addr) (n c : Nat) (l : List P11) (w : World) (h : RdP w A n c l) :
    Calls Try.prog 32 #[cellV ka va (.slice A n c)] w fun e w' => e = .returned (topL (l.map P11.val)).agg ∧ Below w.heap.size w w' := by
  have hle := h.le
  obtain ⟨g, hg⟩ : ∃ g, g = w.heap.size := ⟨_, rfl⟩
  obtain ⟨w1, hw1⟩ : ∃ w1, w1 = ((w.alloc (cellRow ka va (.slice A n c))).alloc (valRow zeroVal)).alloc (valRow zeroVal) := ⟨_, rfl⟩
  have hat : ∀ (w : World) (o : Obj) (g : Nat), w.heap.size = g → (w.alloc o).heap[g]? = some o := fun w o g h => by subst h; exact heap_alloc_new _ _
  have HB : Hid (Below w.heap.size w w1) := by rw [hw1]; exact below_new (below_new (below_new (Below.refl _ _) _) _) _
  have R0 : Hid (w1.heap[g]? = some (cellRow ka va (.slice A n c))) := by
    show _ = _
    rw [hw1, hg, Below.heap_alloc _ _ _ (by simp only [World.size_alloc]; omega), Below.heap_alloc _ _ _ (by simp only [World.size_alloc]; omega)]
    exact hat _ _ _ rfl
  have R1 : Hid (w1.heap[g + 1]? = some (valRow zeroVal)) := by
    show _ = _
    rw [hw1, hg, Below.heap_alloc _ _ _ (by simp only [World.size_alloc]; omega)]
    exact hat _ _ _ (by simp only [World.size_alloc])
  have R2 : Hid (w1.heap[g + 2]? = some (valRow zeroVal)) := by
    show _ = _
    rw [hw1, hg]
    exact hat _ _ _ (by simp only [World.size_alloc])
  have HW1 := Lib.hid hw1; have HG := Lib.hid hg; have HRD := Lib.hid h; have HL := Lib.hid h.len
  obtain ⟨F, hF⟩ : ∃ F, Hid (topL (l.map P11.val) = F) := ⟨_, rfl⟩
  rw [hF.out]
  clear hg hw1 hat h
  obtain ⟨c0, c1, c2, c3, c4⟩ := cell_row5 R0.out
  go_enter Try.func32, Try.ntmps32
  go_upto_region 2 with fail
  rw [← HG.out]
  rw [show ((w.alloc (cellRow ka va (.slice A n c))).alloc (Obj.cells #[Value.int .i64 0, .int .i64 0, .string ⟨#[]⟩] 23)).alloc (Obj.cells #[Value.int .i64 0, .int .i64 0, .string ⟨#[]⟩] 23) = w1 from HW1.out.symm]
  clear HW1
  go_wp2_with fail
  go_loopw [9] (fun i wr => ∃ (k : Nat) (t : V3), k ≤ n ∧ i = .int .i64 k ∧ Hid (topL ((l.take k).map P11.val) = t) ∧ Hid (wr.heap[g + 1]? = some (valRow zeroVal)) ∧ Hid (wr.heap[g + 2]? = some (valRow t)) ∧ Hid (Below w.heap.size w wr)) (fun i _ => n - (intOf i).toNat)
  case atStart => exact ⟨0, zeroVal, Nat.zero_le _, rfl, rfl, R1, R2, HB⟩
  case round =>
    clear c0 c1 c2 c3 c4 HB R1 R2
    obtain ⟨k, t, hk, rfl, ht, R1, R2, HB⟩ := hrel
    by_cases hlt : k < n
    · obtain ⟨b, o, x, rfl, hb, hx, hld⟩ := HRD.out.part hlt
      obtain ⟨d0, d1, d2, d3, d4, d5, d6, d7, d8, d9, d10⟩ := hld wr HB.out
      obtain ⟨w2, hw2⟩ : ∃ w2, w2 = wr.alloc (partCells x) := ⟨_, rfl⟩
      have B2 : Below wr.heap.size wr w2 := by rw [hw2]; exact below_new (Below.refl _ _) _
      have RP : Hid (w2.heap[wr.heap.size]? = some (partCells x)) := by rw [hw2]; exact heap_alloc_new _ _
      have HX := Lib.hid hx
      have HW2 := Lib.hid hw2
      replace R1 := Lib.hid (row_below R1.out B2)
      replace R2 := Lib.hid (row_below R2.out B2)
      replace HB := Lib.hid (below_then HB.out B2)
      obtain ⟨t', ht'⟩ : ∃ t', Hid (topL ((l.take (k + 1)).map P11.val) = t') := ⟨_, rfl⟩
      have hgw : Hid (w.heap.size ≤ g + 2) := by rw [HG.out]; exact Nat.le_add_right _ _
      clear hx hld hw2 B2
      go_upto_region 5 with fail
      rw [show wr.alloc (Obj.cells #[Value.int .i64 x.v.k, .int .i64 x.v.n, .string x.v.s, .int .i64 x.d.d, .int .i64 x.d.s, .int .i64 x.i, .int .i64 x.t, .int .i64 x.a.d, .int .i64 x.a.s, .int .i64 x.j, .bool x.g] 32) = w2 from HW2.out.symm]
      clear HW2
      generalize wr.heap.size = gp at RP ⊢
      clear d0 d1 d2 d3 d4 d5 d6 d7 d8 d9 d10
      obtain ⟨p0, p1, p2, _⟩ := part_row RP.out
      obtain ⟨m0, m1, m2⟩ := val_row R2.out
      have f1 := frozen_row R2.out
      by_cases hk0 : k = 0
      · have hkz : decide ((k : Int) = 0) = true := decide_eq_true (by omega)
        have hkb : ((k : Int) == 0) = true := by simp [hk0]
        have hT : Hid (t' = x.v) := by
          show _ = _
          rw [← ht'.out, vals_take HX.out, hk0]; rfl
        have HK0 := Lib.hid hk0
        clear hk0
        go_wp2_with fail
        refine ⟨⟨k + 1, x.v, by omega, by go_num, by rw [← hT.out]; exact ht', ?_, ?_, ?_⟩, by simp [intOf]; omega⟩
        · show _ = _; rw [set3_other (by omega)]; exact R1.out
        · show _ = _; exact val3 R2.out
        · exact ((HB.out.setCell hgw.out _).setCell hgw.out _).setCell hgw.out _
      · have hkb : ((k : Int) == 0) = false := by simp [hk0]
        obtain ⟨r, hr⟩ : ∃ r, Hid (ltV t x.v = r) := ⟨_, rfl⟩
        have C : Hid (∀ W : World, Calls Try.prog 69 #[t.agg, x.v.agg] W fun e w' => e = .returned (.bool r) ∧ Grown W w') := by intro W; rw [← hr.out]; exact less_grown t x.v W
        have hT : Hid (t' = if r then x.v else t) := by
          show _ = _
          rw [← ht'.out, vals_take HX.out, topL_more (vals_ne HX.out (by omega)), ht.out, hr.out]
        clear hr
        go_wp2_with fail
        refine (C.out _).mono ?_
        rintro e w3 ⟨rfl, b3⟩
        replace R1 := Lib.hid (row_below R1.out b3.below)
        replace R2 := Lib.hid (row_below R2.out b3.below)
        replace RP := Lib.hid (row_below RP.out b3.below)
        replace HB := Lib.hid (below_then HB.out b3.below)
        obtain ⟨p0, p1, p2, _⟩ := part_row RP.out
        obtain ⟨m0, m1, m2⟩ := val_row R2.out
        have f1 := frozen_row R2.out
        clear b3 C
        cases r with
        | true =>
          have hT2 : Hid (t' = x.v) := by rw [hT.out]; rfl
          go_wp2_with fail
          refine ⟨⟨k + 1, x.v, by omega, by go_num, by rw [← hT2.out]; exact ht', ?_, ?_, ?_⟩, by simp [intOf]; omega⟩
          · show _ = _; rw [set3_other (by omega)]; exact R1.out
          · show _ = _; exact val3 R2.out
          · exact ((HB.out.setCell hgw.out _).setCell hgw.out _).setCell hgw.out _
        | false =>
          have hT2 : Hid (t' = t) := by rw [hT.out]; rfl
          go_wp2_with fail
          exact ⟨⟨k + 1, t, by omega, by go_num, by rw [← hT2.out]; exact ht', R1, R2, HB⟩, by simp [intOf]; omega⟩
    · have hT : Hid (F = t) := by
        show _ = _
        rw [← hF.out, ← ht.out, List.take_of_length_le (by rw [HL.out]; omega)]
      obtain ⟨m0, m1, m2⟩ := val_row R2.out
      obtain ⟨e0, e1, e2⟩ := val_row R1.out
      have f1 := frozen_row R1.out
      have hgw : Hid (w.heap.size ≤ g + 1) := by rw [HG.out]; exact Nat.le_add_right _ _
      go_wp2_with fail
      refine bodyPost_ret (v := t.agg) (results_cell_row rfl _ _ (g + 1) 23 _ (0, 0) _ rfl (val3 R1.out) Try.underlying23 rfl (by kernel_rfl)) rfl ?_
      exact ⟨by rw [hT.out], ((HB.out.setCell hgw.out _).setCell hgw.out _).setCell hgw.out _⟩
end Go.Proofs.Ytieaobeidlhefaa

namespace Go.Proofs.Ytieaobeidlhefaa
set_option maxRecDepth 100000
open Go.RowKit Go.Sort Srt

set_option maxHeartbeats 1600000 in
theorem lawNum_any (n : Int) (w : World) : Calls Try.prog 49 #[.int .i64 n] w fun e w' => e = .returned (⟨1, n, ⟨#[]⟩⟩ : V3).agg ∧ Below w.heap.size w w' := by
  have R1 := Lib.hid (heap_alloc_new w (valRow ⟨1, n, ⟨#[]⟩⟩))
  go_enter Try.func49, Try.ntmps49
  go_wp2_with fail
  refine bodyPost_ret (v := (⟨1, n, ⟨#[]⟩⟩ : V3).agg) (results_cell_row rfl _ _ w.heap.size 23 _ (0, 0) _ rfl R1.out Try.underlying23 rfl (by kernel_rfl)) rfl ?_
  exact ⟨rfl, below_new (Below.refl _ _) _⟩

set_option maxHeartbeats 1600000 in
theorem valsSame_any (A B : Option Addr) (n c d : Nat) (l : List V3) (w : World) (ha : RdV w A n c l) (hb : RdV w B n d l) :
    Calls Try.prog 50 #[.slice A n c, .slice B n d] w fun e w' => e = .returned (.bool true) ∧ Below w.heap.size w w' := by
  have hle := ha.le
  have HA := Lib.hid ha; have HB := Lib.hid hb
  have EQ := fun (x : V3) W => (run_equalIn_val x.k x.n x.k x.n x.s x.s W).trans (by rw [show sameZ x.k x.n x.s x.k x.n x.s = true by simp [sameZ]])
  clear ha hb
  go_enter Try.func50, Try.ntmps50
  go_wp2_with fail
  go_loopw [5] (fun v wr => ∃ k : Nat, k ≤ n ∧ v = .int .i64 k ∧ Hid (Below w.heap.size w wr)) (fun v _ => n - (intOf v).toNat)
  case atStart => exact ⟨0, Nat.zero_le _, rfl, Below.refl _ _⟩
  case round =>
    obtain ⟨k, hk, rfl, hbel⟩ := hrel
    by_cases hlt : k < n
    · obtain ⟨b, o, x, rfl, hb0, hx, hld⟩ := HA.out.val hlt
      obtain ⟨b2, o2, y, rfl, hb2, hy, hld2⟩ := HB.out.val hlt
      rw [hx] at hy; injection hy with hy; subst hy
      obtain ⟨c0, c1, c2⟩ := hld wr hbel.out
      obtain ⟨d0, d1, d2⟩ := hld2 wr hbel.out
      have EX := EQ x
      have hkn : (k : Int) < (n : Int) := by omega
      clear EQ hld hld2 hx
      go_wp2_with fail
      go_quiet (fail)
      go_wp2_with fail
      all_goals exact ⟨⟨k + 1, by omega, by go_num, below_then hbel.out (Quiet.below _ ⟨_, rfl⟩)⟩, by simp [intOf]; omega⟩
    · clear EQ
      go_wp2_with fail
      go_ret
      exact ⟨rfl, hbel.out⟩

theorem Try.egSame : ∀ args w, (callFunc 73 args).run Try.prog w = .ok (.enter 73 args) w := enters_of Try.func73 (by kernel_rfl) rfl

set_option maxHeartbeats 3200000 in
theorem compactRise_any (A : Option Addr) (n c : Nat) (l : List V3) (w : World) (h : RdV w A n c l) (hne : ∀ (j : Nat) (x y : V3), l[j]? = some y → l[j + 1]? = some x → x ≠ y) :
    Calls Try.prog 72 #[.slice A n c, .func (.func 73) #[] #[]] w fun e w' => e = .returned (.slice A n c) ∧ Below w.heap.size w w' := by
  have hle := h.le
  have HA := Lib.hid h; have HN := Lib.hid hne
  have eg := Try.egSame
  clear h hne
  go_enter Try.func72, Try.ntmps72
  by_cases h2 : n < 2
  · have h2i : (n : Int) < 2 := by omega
    go_wp2_with fail
    go_ret
    exact ⟨rfl, Below.refl _ _⟩
  · have h2i : ¬ (n : Int) < 2 := by omega
    go_wp2_with fail
    go_loopw [5] (fun v wr => ∃ k : Nat, 0 < k ∧ k ≤ n ∧ v = .int .i64 k ∧ Hid (Below w.heap.size w wr)) (fun v _ => n - (intOf v).toNat)
    case atStart => exact ⟨1, by omega, by omega, rfl, Below.refl _ _⟩
    case round =>
      obtain ⟨k, hk0, hk, rfl, hbel⟩ := hrel
      by_cases hlt : k < n
      · obtain ⟨j, hj⟩ : ∃ j, k = j + 1 := ⟨k - 1, by omega⟩
        obtain ⟨b, o, x, rfl, hb, hx, hld⟩ := HA.out.val hlt
        obtain ⟨b', o', y, he, _, hy, hldy⟩ := HA.out.val (show j < n by omega)
        injection he with he
        injection he with e1 e2
        subst e1; subst e2
        obtain ⟨x0, x1, x2⟩ := hld wr hbel.out
        obtain ⟨y0, y1, y2⟩ := hldy wr hbel.out
        have hxy : x ≠ y := HN.out j x y hy (by rw [← hj]; exact hx)
        have C : Hid (∀ W : World, Calls Try.prog 73 #[x.agg, y.agg] W fun e w' => e = .returned (.bool false) ∧ Below W.heap.size W w') := by
          intro W
          have := valSame_any x.k x.n y.k y.n x.s y.s W
          rw [sameZ_iff, decide_eq_false hxy] at this
          exact this
        have z1 : (0 : Int) ≤ (k : Int) - 1 := by omega
        have z2 : (k : Int) - 1 < (n : Int) := by omega
        have z3 : ((k : Int) - 1).toNat = j := by omega
        have z4 : IntKind.i64.wrap ((k : Int) - 1) = (k : Int) - 1 := wrap_is (by omega)
        have z5 : (k : Int) < (n : Int) := by omega
        have z6 : (1 : Int) ≤ (k : Int) := by omega
        have z7 : 1 ≤ k := by omega
        have z8 : k - 1 = j := by omega
        have hS0 : Below wr.heap.size wr wr ∧ wr.cell? ⟨b, o + k * 3, none⟩ = some (.int .i64 x.k) ∧ wr.cell? ⟨b, o + k * 3 + 1, none⟩ = some (.int .i64 x.n) ∧ wr.cell? ⟨b, o + k * 3 + 2, none⟩ = some (.string x.s) ∧ wr.cell? ⟨b, o + j * 3, none⟩ = some (.int .i64 y.k) ∧ wr.cell? ⟨b, o + j * 3 + 1, none⟩ = some (.int .i64 y.n) ∧ wr.cell? ⟨b, o + j * 3 + 2, none⟩ = some (.string y.s) := ⟨Below.refl _ _, x0, x1, x2, y0, y1, y2⟩
        have K : Hid (∀ W W' : World, (Below wr.heap.size wr W ∧ W.cell? ⟨b, o + k * 3, none⟩ = some (.int .i64 x.k) ∧ W.cell? ⟨b, o + k * 3 + 1, none⟩ = some (.int .i64 x.n) ∧ W.cell? ⟨b, o + k * 3 + 2, none⟩ = some (.string x.s) ∧ W.cell? ⟨b, o + j * 3, none⟩ = some (.int .i64 y.k) ∧ W.cell? ⟨b, o + j * 3 + 1, none⟩ = some (.int .i64 y.n) ∧ W.cell? ⟨b, o + j * 3 + 2, none⟩ = some (.string y.s)) → Below W.heap.size W W' → (Below wr.heap.size wr W' ∧ W'.cell? ⟨b, o + k * 3, none⟩ = some (.int .i64 x.k) ∧ W'.cell? ⟨b, o + k * 3 + 1, none⟩ = some (.int .i64 x.n) ∧ W'.cell? ⟨b, o + k * 3 + 2, none⟩ = some (.string x.s) ∧ W'.cell? ⟨b, o + j * 3, none⟩ = some (.int .i64 y.k) ∧ W'.cell? ⟨b, o + j * 3 + 1, none⟩ = some (.int .i64 y.n) ∧ W'.cell? ⟨b, o + j * 3 + 2, none⟩ = some (.string y.s))) := by
          rintro W W' ⟨kk, k0, k1, k2, k3, k4, k5⟩ hb
          have hc : ∀ (p : Addr) (y : Value), W.cell? p = some y → W'.cell? p = some y := fun p y h2 => (hb.cell (World.block_lt_of_cell? _ _ h2)).trans h2
          exact ⟨below_then kk hb, hc _ _ k0, hc _ _ k1, hc _ _ k2, hc _ _ k3, hc _ _ k4, hc _ _ k5⟩
        clear hx hy hld hldy hxy hj HN
        go_wp2_with fail
        go_region_held3 (fun W => Below wr.heap.size wr W ∧ W.cell? ⟨b, o + k * 3, none⟩ = some (.int .i64 x.k) ∧ W.cell? ⟨b, o + k * 3 + 1, none⟩ = some (.int .i64 x.n) ∧ W.cell? ⟨b, o + k * 3 + 2, none⟩ = some (.string x.s) ∧ W.cell? ⟨b, o + j * 3, none⟩ = some (.int .i64 y.k) ∧ W.cell? ⟨b, o + j * 3 + 1, none⟩ = some (.int .i64 y.n) ∧ W.cell? ⟨b, o + j * 3 + 2, none⟩ = some (.string y.s))
          (first
            | exact K.out _ _ hS0 ((Below.refl _ _).drew)
            | exact K.out _ _ (by assumption) bb
            | assumption)
          (first
            | (go_at_call 73; refine (C.out _).mono ?_; rintro e wx ⟨rfl, bb⟩))
        have hSz : Below wr.heap.size wr wx ∧ wx.cell? ⟨b, o + k * 3, none⟩ = some (.int .i64 x.k) ∧ wx.cell? ⟨b, o + k * 3 + 1, none⟩ = some (.int .i64 x.n) ∧ wx.cell? ⟨b, o + k * 3 + 2, none⟩ = some (.string x.s) ∧ wx.cell? ⟨b, o + j * 3, none⟩ = some (.int .i64 y.k) ∧ wx.cell? ⟨b, o + j * 3 + 1, none⟩ = some (.int .i64 y.n) ∧ wx.cell? ⟨b, o + j * 3 + 2, none⟩ = some (.string y.s) := by assumption
        have B3 := Lib.hid (below_then hbel.out hSz.1)
        clear z1 z2 z3 z4 z5 z6 z7 z8 hS0 K
        go_wp2_with fail
        exact ⟨⟨k + 1, by omega, by omega, by go_num, B3⟩, by simp [intOf]; omega⟩
      · go_wp2_with fail
        go_ret
        exact ⟨rfl, hbel.out⟩
end Go.Proofs.Ytieaobeidlhefaa

namespace Go.Proofs.Ytieaobeidlhefaa
set_option maxRecDepth 100000
open Go.RowKit Go.Sort Srt

theorem v3one (x : V3) : ∀ v ∈ x.cells, v.oneCell' = true := by
  intro v hv
  simp only [V3.cells, List.mem_cons, List.not_mem_nil, or_false] at hv
  rcases hv with rfl | rfl | rfl <;> rfl
theorem encV : EncK V3.cells 3 := ⟨v3len, v3one⟩
theorem Try.infoValue : (Try.prog.info? 23).map (fun i => (i.zero, i.size, i.bytes)) = some (some (.agg #[.int .i64 0, .int .i64 0, .string ⟨#[]⟩]), 3, 32) := by kernel_rfl

/-- a value more, behind a row of the call's own: it lies in a block of its own first -/
theorem wpList_pushV {w W0 : World} {ops : Array Oper} {rest : List Oper} {o : Oper} {a : Act} {Q : Exit → Act → World → Prop} (hgd : o.guard = none) (s x : Operand)
    (ho : o.op = .call { callee := .builtin .append, args := #[s, x], argTypes := #[54, 54] })
    (base : Nat) (v : Value) (n : Nat) (l : List V3) (u : V3) (g : Nat) (hg : w.heap.size = g) (hx : a.eval x = .slice (some ⟨g, 0, none⟩) 1 1)
    (hs : a.eval s = v) (hown : w.ownsRow base 23 3 v n (l.flatMap V3.cells)) (hn : n < 4294967296)
    (hbel : Below base W0 w) (hbase : base ≤ w.heap.size)
    (h : ∀ v' w', w'.ownsRow base 23 3 v' (n + 1) ((l ++ [u]).flatMap V3.cells) → Below base W0 w' → base ≤ w'.heap.size → wpList Try.prog ops Q rest (a.put o.dst v') w') :
    wpList Try.prog ops Q (o :: rest) a (w.alloc (valRow u)) := by
  subst hg
  obtain ⟨i0, hi0, hz0, hz1, hz2⟩ := info_parts Try.infoValue
  refine wpList_append_own _ hgd s x 54 ho base 23 i0 _ 3 32 Try.underlying54 hi0 hz0 hz1 hz2 rfl (by omega) v n (l.flatMap V3.cells) hs (hown.alloc _) ⟨w.heap.size, 0, none⟩ 1 1 u.cells hx rfl ?_
    (v3one u) (by simp only [maxLen]; omega) (by omega) (by simp; omega) ?_
  · intro j y hj
    rw [Addr.add_lit, Nat.zero_add, cell_row (heap_alloc_new w _)]
    simpa [V3.cells] using hj
  intro v' w' hown' hgrow _
  refine h v' w' ?_ ?_ (by have := hgrow.size; simp at this; omega)
  · rw [List.flatMap_append]
    simpa using hown'
  · exact (hbel.alloc hbase _).grown hgrow (by simp; omega) (fun k hk => (hown.lt k hk).1)

theorem ownV_sw {w : World} {base g n cap : Nat} {l : List V3} (h : w.ownsRow base 23 3 (.slice (some ⟨g, 0, none⟩) n cap) n (l.flatMap V3.cells)) : SwK V3.cells 3 w g 0 l w where
  os := rfl
  tape := rfl
  output := rfl
  size := Nat.le_refl _
  lt := (h.lt g rfl).2
  block := fun _ _ _ => rfl
  cell := fun j x hx i v hv => by
    obtain ⟨A, c, hv2, hrd⟩ := RdG.own_ v3len (by omega) h
    injection hv2 with e1 e2 e3
    subst e1 e3
    obtain ⟨hj, e⟩ := List.getElem?_eq_some_iff.1 hx
    obtain ⟨hl, _, _, hq⟩ := hrd
    obtain ⟨b, o, e2, _, hc⟩ := hq (by omega)
    injection e2 with e2
    injection e2 with e3 e4
    subst e3 e4
    exact hc j hj i v (by rw [e]; exact hv)
  frozen := fun j _ => by
    rcases h.2 with ⟨hv, _⟩ | ⟨b, cap', cur, hv, _, hh, _⟩
    · injection hv with e1; cases e1
    · injection hv with e1 e2 e3
      injection e1 with e1
      injection e1 with e1
      subst e1
      exact frozen_row hh _
/-- a row that is being changed reads as what it holds -/
theorem SwK.rd {w0 W : World} {blk n cap : Nat} {l : List V3} (h : SwK V3.cells 3 w0 blk 0 l W) (hl : l.length = n) (hc : n ≤ cap) (hm : cap ≤ maxLen) : RdV W (some ⟨blk, 0, none⟩) n cap l :=
  ⟨hl, hc, hm, fun _ => ⟨blk, 0, rfl, h.lt, fun j hj i v hv => h.cell j _ (List.getElem?_eq_getElem hj) i v hv⟩⟩
/-- what else lies in memory is as it was -/
theorem SwK.belowB {w0 W : World} {blk B : Nat} {l : List V3} (h : SwK V3.cells 3 w0 blk 0 l W) (hB : B ≤ blk) (hs : B ≤ w0.heap.size) : Below B w0 W :=
  ⟨h.os, h.tape, h.output, h.size, fun k hk => h.block k (by omega) (by omega)⟩
end Go.Proofs.Ytieaobeidlhefaa

namespace Go.Proofs.Ytieaobeidlhefaa
set_option maxRecDepth 100000
open Go.RowKit Go.Sort Srt

theorem holds_of_sw {w0 W : World} {g : Nat} {l : List V3} (h : SwK V3.cells 3 w0 g 0 l W) : HoldsK V3.cells 3 W g 0 l.toArray := by
  intro j hj
  rw [size_flatK] at hj
  have hj2 : j < l.length * 3 := by simpa using hj
  have hd : j / 3 < l.length := by omega
  have he : 3 * (j / 3) + j % 3 = j := Nat.div_add_mod j 3
  have hm : j % 3 < 3 := Nat.mod_lt _ (by omega)
  have hx := List.getElem?_eq_getElem hd
  have hc : (V3.cells l[j / 3])[j % 3]? = some ((V3.cells l[j / 3])[j % 3]!) := by
    have : j % 3 < (V3.cells l[j / 3]).length := hm
    rw [List.getElem?_eq_getElem this, getElem!_pos (V3.cells l[j / 3]) (j % 3) this]
  have h1 := h.cell (j / 3) _ hx (j % 3) _ hc
  refine ⟨?_, by rw [Nat.zero_add]; have := h.frozen j hj2; rwa [Nat.zero_add] at this⟩
  rw [get_flatK _ _ _ _ (by simpa using hj2), Nat.zero_add]
  rw [Nat.zero_add, show j / 3 * 3 + j % 3 = j by omega] at h1
  rw [h1]
  simp [getElem!_pos, hd]

theorem sw_of_sort {w : World} {g : Nat} {l d : List V3} (hH : HoldsK V3.cells 3 w g 0 l.toArray) (hl : d.length = l.length) (hg : g < w.heap.size) (n : Nat) (os : Array Obj) : SwK V3.cells 3 w g 0 d (sortWorldK V3.cells 3 w g 0 n d.toArray os) where
  os := rfl
  tape := rfl
  output := rfl
  size := size_sortWorldK_c _ _ _ _ _ _ _ _
  lt := Nat.lt_of_lt_of_le hg (size_sortWorldK_c _ _ _ _ _ _ _ _)
  block := fun i hi hne => by
    show ((w.heap.modify g _) ++ os)[i]? = _
    rw [Array.getElem?_append_left (by rw [Array.size_modify]; exact hi), Array.getElem?_modify, if_neg (fun e => hne e.symm)]
  cell := fun j x hx i v hv => by
    have h2 := holdsK_sortWorldK_c V3.cells 3 w g 0 l.toArray d.toArray n os hH hg (by simpa using hl)
    obtain ⟨hj, he⟩ := List.getElem?_eq_some_iff.1 hx
    have hi : i < 3 := (List.getElem?_eq_some_iff.1 hv).1
    have h3 := (h2.cell (i := j) (c := i) (by simpa using hj) hi).1
    rw [h3]
    have e1 : d.toArray[j]! = x := by rw [getElem!_pos _ _ (by simpa using hj)]; simpa using he
    rw [e1]
    obtain ⟨hi2, he2⟩ := List.getElem?_eq_some_iff.1 hv
    rw [getElem!_pos x.cells i hi2, he2]
  frozen := fun j hj => by
    have h2 := holdsK_sortWorldK_c V3.cells 3 w g 0 l.toArray d.toArray n os hH hg (by simpa using hl)
    have h3 := (h2.cell (i := j / 3) (c := j % 3) (by simp; omega) (Nat.mod_lt _ (by omega))).2
    rw [Nat.zero_add, show j / 3 * 3 + j % 3 = j by omega] at h3
    rw [Nat.zero_add]; exact h3

/-- sorted -/
def leV (x y : V3) : Bool := !ltV y x
def srtV (l : List V3) : List V3 := l.mergeSort leV
theorem leV_trans (a b c : V3) (h1 : leV a b = true) (h2 : leV b c = true) : leV a c = true := by
  simp only [leV, Bool.not_eq_true'] at *
  exact ltV_ntrans h2 h1
theorem leV_total (a b : V3) : (leV a b || leV b a) = true := by
  simp only [leV]
  cases h : ltV b a with
  | false => rfl
  | true => rw [ltV_asym h]; rfl
theorem srtV_len (l : List V3) : (srtV l).length = l.length := List.length_mergeSort l
theorem srtV_mem (l : List V3) (x : V3) : x ∈ srtV l ↔ x ∈ l := (List.mergeSort_perm l leV).mem_iff
theorem srtV_sorted (l : List V3) : (srtV l).Pairwise fun a b => leV a b = true := List.pairwise_mergeSort leV_trans leV_total l
end Go.Proofs.Ytieaobeidlhefaa

namespace Go.Proofs
open Go.Shelf
def Try.sortV_ren : Go.Shelf.Ren := ⟨fun | 6 => 70 | 15 => 88 | 14 => 87 | 28 => 102 | 29 => 103 | 20 => 94 | 21 => 95 | 22 => 96 | 23 => 97 | 24 => 98 | 25 => 99 | 26 => 100 | 27 => 101 | 46 => 106 | 47 => 107 | 48 => 108 | 49 => 109 | 50 => 110 | 57 => 112 | n => n, fun | 22 => 54 | 24 => 23 | 25 => 89 | 3 => 3 | 39 => 104 | 0 => 0 | 53 => 117 | 55 => 119 | 4 => 4 | 46 => 110 | 45 => 109 | 50 => 114 | 5 => 5 | 9 => 9 | 66 => 121 | 70 => 125 | 76 => 127 | 77 => 128 | n => n, fun | n => n⟩
theorem Try.sortV : Go.Proofs.SlLaysF0.n6 Try.prog Try.sortV_ren := {
  mixed := by kernel_rfl
  f6 := ⟨Try.f70.name, by decide, Try.func70.trans (congrArg some (by kernel_rfl))⟩
  f14 := ⟨Try.f87.name, by decide, Try.func87.trans (congrArg some (by kernel_rfl))⟩
  f15 := Try.func88.trans (congrArg some (by kernel_rfl))
  f20 := ⟨Try.f94.name, by decide, Try.func94.trans (congrArg some (by kernel_rfl))⟩
  f21 := ⟨Try.f95.name, by decide, Try.func95.trans (congrArg some (by kernel_rfl))⟩
  f22 := ⟨Try.f96.name, by decide, Try.func96.trans (congrArg some (by kernel_rfl))⟩
  f23 := ⟨Try.f97.name, by decide, Try.func97.trans (congrArg some (by kernel_rfl))⟩
  f24 := ⟨Try.f98.name, by decide, Try.func98.trans (congrArg some (by kernel_rfl))⟩
  f25 := ⟨Try.f99.name, by decide, Try.func99.trans (congrArg some (by kernel_rfl))⟩
  f26 := ⟨Try.f100.name, by decide, Try.func100.trans (congrArg some (by kernel_rfl))⟩
  f27 := ⟨Try.f101.name, by decide, Try.func101.trans (congrArg some (by kernel_rfl))⟩
  f28 := Try.func102.trans (congrArg some (by kernel_rfl))
  f29 := Try.func103.trans (congrArg some (by kernel_rfl))
  f46 := ⟨Try.f106.name, by decide, Try.func106.trans (congrArg some (by kernel_rfl))⟩
  f47 := Try.func107.trans (congrArg some (by kernel_rfl))
  f48 := Try.func108.trans (congrArg some (by kernel_rfl))
  f49 := ⟨Try.f109.name, by decide, Try.func109.trans (congrArg some (by kernel_rfl))⟩
  f50 := ⟨Try.f110.name, by decide, Try.func110.trans (congrArg some (by kernel_rfl))⟩
  f57 := ⟨Try.f112.name, by decide, Try.func112.trans (congrArg some (by kernel_rfl))⟩
  t0 := Try.underlying0
  a0 := Try.isAgg0
  z0 := Try.sizeOf0
  v0 := Try.zeroValue0
  t3 := Try.underlying3
  a3 := Try.isAgg3
  z3 := Try.sizeOf3
  v3 := Try.zeroValue3
  t4 := Try.underlying4
  a4 := Try.isAgg4
  z4 := Try.sizeOf4
  v4 := Try.zeroValue4
  t5 := Try.underlying5
  a5 := Try.isAgg5
  z5 := Try.sizeOf5
  v5 := Try.zeroValue5
  t9 := Try.underlying9
  a9 := Try.isAgg9
  z9 := Try.sizeOf9
  v9 := Try.zeroValue9
  t22 := Try.underlying54
  a22 := Try.isAgg54
  z22 := Try.sizeOf54
  v22 := Try.zeroValue54
  t25 := Try.underlying89
  a25 := Try.isAgg89
  z25 := Try.sizeOf89
  v25 := Try.zeroValue89
  t39 := Try.underlying104
  a39 := Try.isAgg104
  z39 := Try.sizeOf104
  v39 := Try.zeroValue104
  t45 := Try.underlying109
  a45 := Try.isAgg109
  z45 := Try.sizeOf109
  v45 := Try.zeroValue109
  t46 := Try.underlying110
  a46 := Try.isAgg110
  z46 := Try.sizeOf110
  v46 := Try.zeroValue110
  t50 := Try.underlying114
  a50 := Try.isAgg114
  z50 := Try.sizeOf114
  v50 := Try.zeroValue114
  t53 := Try.underlying117
  a53 := Try.isAgg117
  z53 := Try.sizeOf117
  v53 := Try.zeroValue117
  t55 := Try.underlying119
  a55 := Try.isAgg119
  z55 := Try.sizeOf119
  v55 := Try.zeroValue119
  t66 := Try.underlying121
  a66 := Try.isAgg121
  z66 := Try.sizeOf121
  v66 := Try.zeroValue121
  t70 := Try.underlying125
  a70 := Try.isAgg125
  z70 := Try.sizeOf125
  v70 := Try.zeroValue125
  t76 := Try.underlying127
  a76 := Try.isAgg127
  z76 := Try.sizeOf127
  v76 := Try.zeroValue127
  t77 := Try.underlying128
  a77 := Try.isAgg128
  z77 := Try.sizeOf128
  v77 := Try.zeroValue128 }
end Go.Proofs

namespace Go.Proofs.Ytieaobeidlhefaa
set_option maxRecDepth 100000
open Go.RowKit Go.Sort Srt Go.Shelf Go.Lib

set_option maxHeartbeats 1600000 in
theorem sortV_any (base g n cap : Nat) (l : List V3) (w : World) (hl : l.length = n) (hown : w.ownsRow base 23 3 (.slice (some ⟨g, 0, none⟩) n cap) n (l.flatMap V3.cells)) (hn : n ≤ 4294967296) :
    Calls Try.prog 70 #[.slice (some ⟨g, 0, none⟩) n cap, .func (.func 71) #[] #[]] w fun e w' => e = .returned (.tuple #[]) ∧ SwK V3.cells 3 w g 0 (srtV l) w' := by
  have hsw := ownV_sw hown
  have hH := holds_of_sw hsw
  have hg := (hown.lt g rfl).2
  subst hl
  by_cases h0 : l.length = 0
  · obtain rfl : l = [] := List.eq_nil_of_length_eq_zero h0
    have := AnyF.slices_SortFunc_none (P := Try.prog) (ρ := Try.sortV_ren) { Try.sortV with } (some ⟨g, 0, none⟩) cap (.func (.func 71) #[] #[]) w
    refine Calls.mono this fun e w' h => ⟨h.1, ?_⟩
    rw [h.2, show srtV [] = [] from List.eq_nil_of_length_eq_zero (srtV_len [])]
    exact hsw
  · have aE : ∀ w, (isAgg 23).run Try.prog w = .ok true w := fun _ => by kernel_rfl
    have zE : ∀ w, (Go.sizeOf 23).run Try.prog w = .ok 3 w := fun _ => by kernel_rfl
    have eg : ∀ args w, (callFunc 71 args).run Try.prog w = .ok (.enter 71 args) w := enters_of Try.func71 (by kernel_rfl) rfl
    have hcmp : CmpLays Try.prog 71 #[] V3.cells 3 cmpV g 0 l.toArray.size w := fun _ _ _ _ x y => cmpVals_any x y _
    have hT : ∀ x y : V3, (ltOf cmpV) x y = false → (ltOf cmpV) y x = false → x = y := fun x y h1 h2 => by
      rw [ltOf_cmpV] at h1 h2; exact ltV_tot h1 h2
    have := AnyQ.slices_SortFunc_total Try.sortV 3 aE zE V3.cells v3len v3one cmpV swoV 71 #[] g 0 cap l.toArray w eg hcmp hH hg (by simp; omega) hT
    refine Calls.mono this fun e w' h => ⟨h.1, ?_⟩
    obtain ⟨m, os, hw⟩ := h.2
    have e1 : (l.toArray.toList.mergeSort fun x y => !(ltOf cmpV) y x) = srtV l := by rw [ltOf_cmpV]; rfl
    rw [e1] at hw
    rw [hw]
    exact sw_of_sort hH (srtV_len l) hg m os

/-- the values of parts, rising, each once: where none is twice -/
theorem next_ne {l : List V3} (h : l.Nodup) {j : Nat} {x y : V3} (hy : l[j]? = some y) (hx : l[j + 1]? = some x) : x ≠ y := by
  intro e
  subst e
  obtain ⟨h1, e1⟩ := List.getElem?_eq_some_iff.1 hy
  obtain ⟨h2, e2⟩ := List.getElem?_eq_some_iff.1 hx
  exact List.pairwise_iff_getElem.1 h j (j + 1) h1 h2 (by omega) (e1.trans e2.symm)
theorem srtV_nodup {l : List V3} (h : l.Nodup) : (srtV l).Nodup := (List.mergeSort_perm l leV).nodup_iff.2 h

set_option maxHeartbeats 3200000 in
theorem valuesOnce_any (ka : Int) (va : V3) (A : Option Addr) (n c : Nat) (l : List P11) (w : World) (h : RdP w A n c l) (hn : n ≤ 4294967000) (hnd : (l.map P11.val).Nodup) :
    Calls Try.prog 33 #[cellV ka va (.slice A n c)] w fun e w' => ∃ A' c', e = .returned (.slice A' n c') ∧ RdV w' A' n c' (srtV (l.map P11.val)) ∧ Below w.heap.size w w' := by
  have hle := h.le
  have HLL := Lib.hid h.len
  obtain ⟨L, hLL⟩ : ∃ L, Hid (l.map P11.val = L) := ⟨_, rfl⟩
  rw [hLL.out] at hnd ⊢
  obtain ⟨i0, hi0, hz0, hz1, hz2⟩ := info_parts Try.infoValue
  obtain ⟨w1, hw1⟩ : ∃ w1, w1 = w.alloc (cellRow ka va (.slice A n c)) := ⟨_, rfl⟩
  have hb1 : Below w.heap.size w w1 := by rw [hw1]; exact below_new (Below.refl _ _) _
  have R0 : Hid (w1.heap[w.heap.size]? = some (cellRow ka va (.slice A n c))) := by rw [hw1]; exact heap_alloc_new _ _
  have HRD := Lib.hid h
  have HB := Lib.hid hb1
  have HW1 := Lib.hid hw1
  have HND := Lib.hid hnd
  have HN := Lib.hid hn
  have HI := Lib.hid hi0; have HZ0 := Lib.hid hz0; have HZ1 := Lib.hid hz1; have HZ2 := Lib.hid hz2
  obtain ⟨c0, c1, c2, c3, c4⟩ := cell_row5 R0.out
  clear h hb1 hw1 hnd hi0 hz0 hz1 hz2
  go_enter Try.func33, Try.ntmps33
  go_upto_region 1 with fail
  rw [show w.alloc (cellRow ka va (.slice A n c)) = w1 from HW1.out.symm]
  clear HW1
  go_wp2_with (at_make; refine wpList_make_own _ rfl _ _ 54 rfl w1.heap.size 23 i0 _ 3 Try.underlying54 HI.out HZ0.out HZ1.out .i64 .i64 _ n rfl rfl rfl ?b2 ?b3 ?b4 ?_; rotate_left 3; intro w2 hown hgrow; have b2 := Below.grown (Below.refl w1.heap.size w1) hgrow (Nat.le_refl _) (fun k hk => by cases hk); have HO := Lib.hid hown; have HG := Lib.hid b2; have R2 := row_below R0.out b2; obtain ⟨d0, d1, d2, d3, d4⟩ := cell_row5 R2; clear R2 hown hgrow b2)
  case b2 => rw [HZ2.out]; have := HN.out; omega
  case b3 => simp only [maxLen]; omega
  case b4 => exact Nat.le_refl _
  clear c0 c1 c2 c3 c4 HI HZ0 HZ1 HZ2
  have HS0 : Hid (∃ g cap, (Value.slice (some ⟨w1.heap.size, 0, none⟩) 0 n) = .slice (some ⟨g, 0, none⟩) 0 cap) := ⟨_, _, rfl⟩
  generalize Value.slice (some ⟨w1.heap.size, 0, none⟩) 0 n = s0 at HO HS0 ⊢
  go_loopw [3, 13] (fun s i wr => ∃ k : Nat, k ≤ n ∧ i = .int .i64 k ∧ Hid (wr.ownsRow w1.heap.size 23 3 s k (((l.take k).map P11.val).flatMap V3.cells)) ∧ Hid (∃ g cap, s = .slice (some ⟨g, 0, none⟩) k cap) ∧ Hid (Below w1.heap.size w1 wr)) (fun _ i _ => n - (intOf i).toNat)
  case atStart => exact ⟨0, Nat.zero_le _, rfl, HO, HS0, HG⟩
  case round =>
    clear HO HS0 HG d0 d1 d2 d3 d4
    obtain ⟨k, hk, rfl, HO, HS, HG⟩ := hrel
    by_cases hlt : k < n
    · obtain ⟨b, o, x, rfl, hb, hx, hld⟩ := HRD.out.part hlt
      obtain ⟨e0, e1, e2, e3, e4, e5, e6, e7, e8, e9, e10⟩ := hld wr (below_then HB.out HG.out)
      obtain ⟨w3, hw3⟩ : ∃ w3, w3 = wr.alloc (partCells x) := ⟨_, rfl⟩
      have HX := Lib.hid hx
      have RP : Hid (w3.heap[wr.heap.size]? = some (partCells x)) := by rw [hw3]; exact heap_alloc_new _ _
      have HO3 : Hid (w3.ownsRow w1.heap.size 23 3 u3 k (((l.take k).map P11.val).flatMap V3.cells)) := by rw [hw3]; exact HO.out.alloc _
      have HG3 : Hid (Below w1.heap.size w1 w3) := by rw [hw3]; exact HG.out.alloc HG.out.size _
      have HW3 := Lib.hid hw3
      have hk60 : Hid (k < 4294967296) := by have := HN.out; show _ < _; omega
      clear hx hld hw3 HO HG HS
      go_upto_region 5 with fail
      rw [show wr.alloc (Obj.cells #[Value.int .i64 x.v.k, .int .i64 x.v.n, .string x.v.s, .int .i64 x.d.d, .int .i64 x.d.s, .int .i64 x.i, .int .i64 x.t, .int .i64 x.a.d, .int .i64 x.a.s, .int .i64 x.j, .bool x.g] 32) = w3 from HW3.out.symm]
      clear HW3 e0 e1 e2 e3 e4 e5 e6 e7 e8 e9 e10
      generalize wr.heap.size = gp at RP ⊢
      obtain ⟨p0, p1, p2, _⟩ := part_row RP.out
      go_wp2_with (at_builtin; refine wpList_pushV rfl (.tmp 17) (.tmp 20) rfl w1.heap.size _ k ((l.take k).map P11.val) x.v _ rfl rfl rfl HO3.out hk60.out HG3.out HG3.out.size ?_; intro v4 w4 hown4 hbel4 hsz4; have HO4 := Lib.hid hown4; have HG4 := Lib.hid hbel4; clear hown4 hbel4 hsz4)
      refine ⟨⟨k + 1, by omega, by go_num, ?_, ?_, HG4⟩, by simp [intOf]; omega⟩
      · show World.ownsRow _ _ _ _ _ _ _
        rw [vals_take HX.out]; exact HO4.out
      · show ∃ g cap, _
        rcases HO4.out.2 with ⟨_, h0⟩ | ⟨g, cap, cur, hv, _⟩
        · omega
        · exact ⟨g, cap, hv⟩
    · obtain rfl : k = n := by omega
      obtain ⟨g, cap, rfl⟩ := HS.out
      have hL : Hid ((l.take k).map P11.val = l.map P11.val) := by show _ = _; rw [List.take_of_length_le (by rw [HLL.out]; exact Nat.le_refl _)]
      rw [hL.out, hLL.out] at HO
      have hlen : Hid (L.length = k) := by show _ = _; rw [← hLL.out, List.length_map]; exact HLL.out
      have C := Lib.hid (sortV_any w1.heap.size g k cap L wr hlen.out HO.out (by have := HN.out; omega))
      obtain ⟨A2, c2, hv2, hrd2⟩ := RdG.own_ v3len (by omega) HO.out
      injection hv2 with f1 f2 f3
      subst f1 f3
      have hcap := Lib.hid hrd2.cap; have hmx := Lib.hid hrd2.2.2.1
      have hgb := Lib.hid (HO.out.lt g rfl).1
      have hBW := Lib.hid (below_then HB.out HG.out)
      have hszw : Hid (w.heap.size ≤ w1.heap.size) := HB.out.size
      have hND2 := Lib.hid (srtV_nodup HND.out)
      clear HO HG HS hrd2 hL HND HRD R0 HB
      go_wp2_with fail
      refine C.out.mono ?_
      rintro e w5 ⟨rfl, SW⟩
      have hrd5 : RdV w5 (some ⟨g, 0, none⟩) k cap (srtV L) := SW.rd (by rw [srtV_len]; exact hlen.out) hcap.out hmx.out
      have C2 := Lib.hid (compactRise_any (some ⟨g, 0, none⟩) k cap (srtV L) w5 hrd5 (fun j x y hy hx => next_ne hND2.out hy hx))
      have HR5 := Lib.hid hrd5
      have HB5 := Lib.hid (hBW.out.trans (SW.belowB (B := w.heap.size) (by have := hgb.out; have := hszw.out; omega) hBW.out.size))
      clear C SW hrd5
      go_wp2_with fail
      refine C2.out.mono ?_
      rintro e w6 ⟨rfl, b6⟩
      have HR6 := Lib.hid (HR5.out.below b6)
      have HB6 := Lib.hid (below_then HB5.out b6)
      clear C2 b6
      go_wp2_with fail
      go_ret
      exact ⟨_, _, rfl, HR6.out, HB6.out⟩
end Go.Proofs.Ytieaobeidlhefaa

namespace Go.Proofs.Ytieaobeidlhefaa
set_option maxRecDepth 100000
open Go.RowKit Go.Sort Srt

abbrev numV (n : Int) : V3 := ⟨1, n, ⟨#[]⟩⟩
abbrev p5 : P11 := part0 (numV 5) ⟨1, 1⟩
abbrev p7 : P11 := part0 (numV 7) ⟨2, 1⟩
abbrev p6 : P11 := part0 (numV 6) ⟨1, 2⟩

theorem al_w1 : writeL [] (numV 5) ⟨1, 1⟩ [] = [p5] := by simp [writeL, insP_nil]
theorem al_w2 : writeL [p5] (numV 7) ⟨2, 1⟩ [] = [p5, p7] := by
  have h : keptW ⟨2, 1⟩ [] p5 = true := by decide
  have h2 : aboveD (⟨1, 1⟩ : D2) ⟨2, 1⟩ = false := by decide
  rw [writeL, List.filter_cons, if_pos h, List.filter_nil, insP_cons, if_neg (by show ¬ aboveD (⟨1, 1⟩ : D2) ⟨2, 1⟩ = true; rw [h2]; decide), insP_nil]
theorem al_w3 : writeL [p5, p7] (numV 6) ⟨1, 2⟩ [1] = [p6, p7] := by
  have h : keptW ⟨1, 2⟩ [1] p5 = false := by decide
  have h1 : keptW ⟨1, 2⟩ [1] p7 = true := by decide
  have h2 : aboveD (⟨2, 1⟩ : D2) ⟨1, 2⟩ = true := by decide
  rw [writeL, List.filter_cons, if_neg (by rw [h]; decide), List.filter_cons, if_pos h1, List.filter_nil, insP_cons]
  exact if_pos h2
theorem al_j : joinL [p5, p7] [p6, p7] [1, 1] [2, 1] = [p6, p7] := by
  have a1 : joinA [p6, p7] [2, 1] p5 = false := by decide
  have a2 : joinA [p6, p7] [2, 1] p7 = true := by decide
  have b1 : joinB [p5, p7] [1, 1] p6 = true := by decide
  have b2 : joinB [p5, p7] [1, 1] p7 = false := by decide
  have h2 : aboveD (⟨2, 1⟩ : D2) ⟨1, 2⟩ = true := by decide
  rw [joinL_steps, List.filter_cons, if_neg (by rw [a1]; decide), List.filter_cons, if_pos a2, List.filter_nil, List.filter_cons, if_pos b1, List.filter_cons, if_neg (by rw [b2]; decide), List.filter_nil]
  show insP (insP [] p7) p6 = _
  rw [insP_nil, insP_cons]
  exact if_pos h2
theorem srtV_id {l : List V3} (h : l.Pairwise fun a b => leV a b = true) : srtV l = l := List.mergeSort_of_pairwise h
theorem al_s1 : srtV [numV 5, numV 7] = [numV 5, numV 7] := srtV_id (by
  refine List.pairwise_cons.2 ⟨fun y hy => ?_, List.pairwise_singleton _ _⟩
  rw [List.mem_singleton] at hy; subst hy; simp [leV, ltV, lessZ])
theorem al_s2 : srtV [numV 6, numV 7] = [numV 6, numV 7] := srtV_id (by
  refine List.pairwise_cons.2 ⟨fun y hy => ?_, List.pairwise_singleton _ _⟩
  rw [List.mem_singleton] at hy; subst hy; simp [leV, ltV, lessZ])
theorem al_top : topL [numV 5, numV 7] = numV 7 := by
  show (if ltV (numV 5) (numV 7) = true then numV 7 else numV 5) = numV 7
  rw [if_pos (by simp [ltV, lessZ])]
theorem al_right : rightC 1 zeroVal [p6, p7] = true := by
  have h6 : okP p6 = true := by simp [okP, part0, V3.right, rightZ]; rfl
  have h7 : okP p7 = true := by simp [okP, part0, V3.right, rightZ]; rfl
  have hr : RightL [p6, p7] := ⟨fun p hp => by simp only [List.mem_cons, List.not_mem_nil, or_false] at hp; rcases hp with rfl | rfl <;> assumption,
    List.pairwise_cons.2 ⟨fun y hy => by rw [List.mem_singleton] at hy; subst hy; decide, List.pairwise_singleton _ _⟩⟩
  have hz : zeroVal = zeroV := rfl
  simp [rightC, hr, hz]
theorem al_wrong : rightC 0 zeroVal [] = false := by simp [rightC]

/-- a write whose answer is known -/
theorem write_is (k : Int) (v0 : V3) (A : Option Addr) (n c : Nat) (l : List P11) (v : V3) (d : D2) (B : Option Addr) (m cc : Nat) (kn : List Int) (w : World) (h : RdP w A n c l) (hn : n ≤ 4294967295) (hk : Rd w B m cc (vals .i64 kn)) (L : List P11) (q : Nat) (hL : writeL l v d kn = L) (hq : L.length = q) :
    Calls Try.prog 20 #[cellV k v0 (.slice A n c), v.agg, d.agg, .slice B m cc] w fun e w' =>
      ∃ A' c', e = .returned (cellV k v0 (.slice A' q c')) ∧ RdP w' A' q c' L ∧ Below w.heap.size w w' := by
  subst hL; subst hq; exact write_any k v0 A n c l v d B m cc kn w h hn hk
theorem join_is (ka : Int) (va : V3) (A : Option Addr) (n c : Nat) (la : List P11) (kb : Int) (vb : V3) (B : Option Addr) (m d : Nat) (lb : List P11) (C : Option Addr) (p pc : Nat) (na : List Int) (D : Option Addr) (q qc : Nat) (nb : List Int) (w : World)
    (ha : RdP w A n c la) (hb : RdP w B m d lb) (hn : n + m ≤ 4294967295) (hka : Rd w C p pc (vals .i64 na)) (hkb : Rd w D q qc (vals .i64 nb)) (L : List P11) (r : Nat) (hL : joinL la lb na nb = L) (hr : L.length = r) :
    Calls Try.prog 22 #[cellV ka va (.slice A n c), cellV kb vb (.slice B m d), .slice C p pc, .slice D q qc] w fun e w' =>
      ∃ A' c', e = .returned (cellV 1 ⟨0, 0, ⟨#[]⟩⟩ (.slice A' r c')) ∧ RdP w' A' r c' L ∧ Below w.heap.size w w' := by
  subst hL; subst hr; exact join_any ka va A n c la kb vb B m d lb C p pc na D q qc nb w ha hb hn hka hkb
theorem same7_is (ka : Int) (va : V3) (A B : Option Addr) (n c d : Nat) (la : List P11) (w : World) (ha : RdP w A n c la) (hb : RdP w B n d la) :
    Calls Try.prog 19 #[cellV ka va (.slice A n c), cellV ka va (.slice B n d)] w fun e w' => e = .returned (.bool true) ∧ Below w.heap.size w w' := by
  have := refSame7_any ka va A n c la ka va B n d la w ha hb
  simpa using this
theorem values_is (ka : Int) (va : V3) (A : Option Addr) (n c : Nat) (l : List P11) (w : World) (h : RdP w A n c l) (hn : n ≤ 4294967000) (hnd : (l.map P11.val).Nodup) (L : List V3) (hL : srtV (l.map P11.val) = L) :
    Calls Try.prog 33 #[cellV ka va (.slice A n c)] w fun e w' => ∃ A' c', e = .returned (.slice A' n c') ∧ RdV w' A' n c' L ∧ Below w.heap.size w w' := by
  subst hL; exact valuesOnce_any ka va A n c l w h hn hnd

/-- a store into a variable that holds a cell: what reads as parts does so still -/
theorem rdp_set {w : World} {A : Option Addr} {n c : Nat} {l : List P11} (h : RdP w A n c l) {g : Nat} {cs : Array Value} {t : TypeId} {fr : Nat × Nat} (hg : w.heap[g]? = some (.cells cs t fr)) (hs : cs.size ≤ 10) (j : Nat) (v : Value) : RdP (w.setCell ⟨g, j, none⟩ v) A n c l := by
  obtain ⟨hl, h1, h2, hx⟩ := h
  refine ⟨hl, h1, h2, fun h0 => ?_⟩
  obtain ⟨b, o, rfl, hb, hc⟩ := hx h0
  have hbg : b ≠ g := by
    intro e
    subst e
    have h3 := hc 0 (by omega) 10 _ rfl
    rw [cell_row hg] at h3
    have h4 := (Array.getElem?_eq_some_iff.1 h3).1
    omega
  refine ⟨b, o, rfl, by rw [World.size_setCell]; exact hb, fun q hq i u hu => ?_⟩
  rw [World.cell?_setCell_other _ _ _ _ (by intro e; simp only [Addr.mk.injEq] at e; exact hbg (by first | exact e.1 | exact e.1.symm))]
  exact hc q hq i u hu
theorem rdp_set5 {w : World} {A : Option Addr} {n c : Nat} {l : List P11} (h : RdP w A n c l) {g : Nat} {k : Int} {u : V3} {s : Value} (hg : w.heap[g]? = some (cellRow k u s)) (x y z a b : Value) :
    RdP (((((w.setCell ⟨g, 0, none⟩ x).setCell ⟨g, 1, none⟩ y).setCell ⟨g, 2, none⟩ z).setCell ⟨g, 3, none⟩ a).setCell ⟨g, 4, none⟩ b) A n c l := by
  have r1 := set_row hg 0 x
  have r2 := set_row r1 1 y
  have r3 := set_row r2 2 z
  have r4 := set_row r3 3 a
  exact rdp_set (rdp_set (rdp_set (rdp_set (rdp_set h hg (by simp) 0 x) r1 (by simp) 1 y) r2 (by simp) 2 z) r3 (by simp) 3 a) r4 (by simp) 4 b
theorem set5_other {w : World} {g g' : Nat} {x y z a b : Value} (hg : g ≠ g') : (((((w.setCell ⟨g, 0, none⟩ x).setCell ⟨g, 1, none⟩ y).setCell ⟨g, 2, none⟩ z).setCell ⟨g, 3, none⟩ a).setCell ⟨g, 4, none⟩ b).heap[g']? = w.heap[g']? := by
  have ho : ∀ (w : World) (j : Nat) (x : Value), (w.setCell ⟨g, j, none⟩ x).heap[g']? = w.heap[g']? := fun w j x => by
    show (w.heap.modify g _)[g']? = _
    rw [Array.getElem?_modify, if_neg hg]
  rw [ho, ho, ho, ho, ho]
theorem below_set5 {w0 w : World} {B g : Nat} {x y z a b : Value} (h : Below B w0 w) (hg : B ≤ g) : Below B w0 (((((w.setCell ⟨g, 0, none⟩ x).setCell ⟨g, 1, none⟩ y).setCell ⟨g, 2, none⟩ z).setCell ⟨g, 3, none⟩ a).setCell ⟨g, 4, none⟩ b) :=
  ((((h.setCell hg x).setCell hg y).setCell hg z).setCell hg a).setCell hg b
end Go.Proofs.Ytieaobeidlhefaa

