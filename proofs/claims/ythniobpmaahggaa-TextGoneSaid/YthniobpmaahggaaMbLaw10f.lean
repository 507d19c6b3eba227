/- Several texts laid together: TxtGone, TxtVar, Law10f. -/
import Derived.Test.YthniobpmaahggaaMbTxtType
import Derived.Test.YthniobpmaahggaaMbTxtAlive
import Derived.Test.YthniobpmaahggaaRows
import Derived.Test.YthniobpmaahggaaMbBase
import Derived.Test.YthniobpmaahggaaMbOpen
import Derived.Test.YthniobpmaahggaaMbVecOpen
import Derived.Test.YthniobpmaahggaaMbClkOpen
import Derived.Test.YthniobpmaahggaaMbVecDot
namespace Go.Proofs.Ythniobpmaahggaa
set_option maxRecDepth 100000
open Go.RowKit

theorem erP_nm (N : N3) (p : P11) : nm (erP N p) = nm p := by unfold erP; split <;> rfl
theorem erP_up (N : N3) (p : P11) : upN (erP N p) = upN p := by unfold erP; split <;> rfl
theorem erP_st (N : N3) (p : P11) : stP (erP N p) = stP p := by unfold erP; split <;> rfl
theorem erP_i (N : N3) (p : P11) : (erP N p).i = p.i := by unfold erP; split <;> rfl
theorem erP_d (N : N3) (p : P11) : (erP N p).d = p.d := by unfold erP; split <;> rfl
theorem erP_t (N : N3) (p : P11) : (erP N p).t = p.t := by unfold erP; split <;> rfl
theorem erP_formed (N : N3) (p : P11) : formedT (erP N p) = formedT p := by unfold erP; split <;> rfl
theorem erP_g (N : N3) (p : P11) : (erP N p).g = (p.g || decide (nm p = N)) := by
  unfold erP
  split
  · rename_i h; simp [h]
  · rename_i h; simp [h]
theorem erP_ahead (N : N3) (p q : P11) : ahead (erP N p) (erP N q) = ahead p q := by unfold ahead; rw [erP_st, erP_st, erP_i, erP_i]
theorem erP_older (N : N3) (p q : P11) : older (erP N p) (erP N q) = older p q := by unfold older; rw [erP_st, erP_st, erP_i, erP_i]
theorem erP_twice (N : N3) (p : P11) : erP N (erP N p) = erP N p := by
  by_cases h : nm p = N
  · have e : erP N p = { p with g := true } := by unfold erP; rw [if_pos h]
    rw [e]
    unfold erP
    rw [if_pos (show nm { p with g := true } = N from h)]
  · have e : erP N p = p := by unfold erP; rw [if_neg h]
    rw [e, e]
theorem erP_swap (N M : N3) (p : P11) : erP N (erP M p) = erP M (erP N p) := by
  have e : ∀ (A B : N3), erP A (erP B p) = { p with g := (p.g || decide (nm p = B)) || decide (nm p = A) } := by
    intro A B
    have h1 : ∀ (C : N3) (q : P11), erP C q = { q with g := q.g || decide (nm q = C) } := by
      intro C q
      unfold erP
      split
      · rename_i h; rw [decide_eq_true h, Bool.or_true]
      · rename_i h; rw [decide_eq_false h, Bool.or_false]
    rw [h1 A, erP_nm, h1 B]
  rw [e, e, Bool.or_assoc, Bool.or_assoc, Bool.or_comm (decide (nm p = M))]
theorem eraseL_twice (l : List P11) (N : N3) : eraseL (eraseL l N) N = eraseL l N := by
  rw [eraseL, eraseL, List.map_map]
  exact List.map_congr_left fun p _ => erP_twice N p
theorem eraseL_swap (l : List P11) (N M : N3) : eraseL (eraseL l N) M = eraseL (eraseL l M) N := by
  rw [eraseL, eraseL, eraseL, eraseL, List.map_map, List.map_map]
  exact List.map_congr_left fun p _ => erP_swap M N p

theorem er_insT (N : N3) (x : P11) : ∀ l, insT (erP N x) (l.map (erP N)) = (insT x l).map (erP N)
  | [] => rfl
  | y :: l => by
    rw [List.map_cons, insT, insT, erP_ahead]
    split
    · rw [List.map_cons, er_insT N x l]
    · rfl
theorem er_srtT (N : N3) : ∀ l, srtT (eraseL l N) = (srtT l).map (erP N)
  | [] => rfl
  | y :: l => by
    have := er_srtT N l
    unfold srtT eraseL at *
    rw [List.map_cons, List.foldr_cons, this, er_insT, List.foldr_cons]
theorem er_kids (N : N3) (s : List P11) (n : N3) : kidsT (s.map (erP N)) n = (kidsT s n).map (erP N) := by
  unfold kidsT
  rw [List.filter_map]
  congr 1
  apply List.filter_congr
  intro p _
  simp only [Function.comp, erP_up]
theorem er_hang (N : N3) (m m' : N3 → List P11) (h : ∀ n, m' n = (m n).map (erP N)) : ∀ (k : Nat) (p : P11), hangT m' k (erP N p) = (hangT m k p).map (erP N)
  | 0, p => rfl
  | k + 1, p => by
    rw [hangT, hangT, List.map_cons, erP_nm, h, List.map_flatMap, List.flatMap_map]
    congr 1
    congr 1
    funext q
    exact er_hang N m m' h k q
theorem er_ordT (l : List P11) (N : N3) : ordT (eraseL l N) = eraseL (ordT l) N := by
  have hk : ∀ n, kidsT (srtT (eraseL l N)) n = (kidsT (srtT l) n).map (erP N) := fun n => by rw [er_srtT, er_kids]
  have h0 : ordT (eraseL l N) = (kidsT (srtT (eraseL l N)) zN).flatMap (hangT (kidsT (srtT (eraseL l N))) l.length) := by rw [ordT, eraseL_len]
  rw [h0, hk]
  rw [show eraseL (ordT l) N = (ordT l).map (erP N) from rfl, ordT, List.map_flatMap, List.flatMap_map]
  congr 1
  funext q
  exact er_hang N _ _ hk _ q
theorem er_whole {l : List P11} (h : WholeT l) (N : N3) : WholeT (eraseL l N) := by
  refine ⟨?_, ?_, ?_, ?_⟩
  · intro p hp
    obtain ⟨q, hq, rfl⟩ := List.mem_map.1 hp
    rw [erP_formed]; exact h.1 q hq
  · refine List.pairwise_map.2 (h.2.1.imp ?_)
    intro a b hab; rw [erP_nm, erP_nm]; exact hab
  · intro p hp q hq e
    obtain ⟨p', hp', rfl⟩ := List.mem_map.1 hp
    obtain ⟨q', hq', rfl⟩ := List.mem_map.1 hq
    rw [erP_d, erP_d] at e
    rw [erP_t, erP_t]
    exact h.2.2.1 p' hp' q' hq' e
  · intro p hp
    obtain ⟨p', hp', rfl⟩ := List.mem_map.1 hp
    rcases h.2.2.2 p' hp' with h1 | ⟨q, hq, h1, h2⟩
    · exact .inl (by rw [erP_up]; exact h1)
    · exact .inr ⟨erP N q, List.mem_map_of_mem hq, by rw [erP_nm, erP_up]; exact h1, by rw [erP_older]; exact h2⟩
theorem er_right {k : Int} {v : V3} {l : List P11} (h : rightT10 k v l = 0) (N : N3) : rightT10 k v (eraseL l N) = 0 := by
  obtain ⟨h1, h2, h3, h4, h5⟩ := rightT10_ok.1 h
  exact rightT10_ok.2 ⟨h1, h2, er_whole h3 N, by rw [eraseL_len]; exact h4, by rw [er_ordT, h5]⟩
theorem er_free (N : N3) (d : D2) (l : List P11) : freeT (eraseL l N) d = freeT l d := by
  unfold freeT eraseL
  rw [List.foldl_map]
  congr 1
  funext m p
  rw [erP_d, erP_i]
theorem er_clash (N : N3) (who : S3) (l : List P11) : clashT (eraseL l N) who = clashT l who := by
  unfold clashT eraseL
  rw [List.any_map]
  congr 1
  funext p
  simp only [Function.comp, erP_d, erP_t]
theorem er_stand (N M : N3) (who : S3) (l : List P11) : standT (eraseL l N) who M = standT l who M := by
  unfold standT eraseL
  rw [List.find?_map]
  have : (fun p => decide (nm p = M)) ∘ erP N = fun p => decide (nm p = M) := by funext p; simp only [Function.comp, erP_nm]
  rw [this]
  split
  · rfl
  · cases l.find? (fun p => decide (nm p = M)) with
    | none => rfl
    | some q => simp only [Option.map_some, erP_st]
theorem er_may {k : Int} {v : V3} {l : List P11} (h : rightT10 k v l = 0) (sl : Nat) (who : S3) (N M : N3) : mayT k v (eraseL l N) sl who M = mayT k v l sl who M := by
  unfold mayT
  rw [if_pos h, if_pos (er_right h N), er_clash, er_free, er_stand, eraseL_len]
theorem er_new (N : N3) (d : D2) (t : Int) : ∀ (bs : List Int) (f : Int) (M : N3), (N.d = d → N.i < f) → (newL bs d t f M).map (erP N) = newL bs d t f M
  | [], _, _, _ => rfl
  | b :: bs, f, M, h => by
    rw [newL, List.map_cons, er_new N d t bs (f + 1) ⟨d, f⟩ (fun e => by have := h e; omega)]
    congr 1
    unfold erP
    rw [if_neg]
    intro e
    have e1 : d = N.d := congrArg N3.d e
    have e2 : f = N.i := congrArg N3.i e
    have := h e1.symm
    omega
theorem er_type {k : Int} {v : V3} {l : List P11} {s : ByteArray} {who : S3} {N : N3} (h : mayT k v l s.size who N = 0) : eraseL (typeL l s who N) N = typeL (eraseL l N) s who N := by
  have hc := can_of h
  obtain ⟨h1, h2, h3, h4, h5, h6, h7⟩ := mayT_ok.1 h
  have hr := (rightSt_iff who).1 h2
  have hN : N.d = dotS who → N.i < freeT l (dotS who) := by
    intro e
    rcases hc.up with h8 | ⟨q, hq, h8, _⟩
    · rw [h8] at e
      have e3 : (0 : Int) = who.d := congrArg D2.d e
      have := hr.2.1.1
      omega
    · have h9 : q.d = dotS who := by rw [← e, ← h8]; rfl
      have h10 := hc.free q hq h9
      rw [← h8]; exact h10
  unfold typeL
  rw [← er_ordT]
  congr 1
  unfold addL
  rw [er_free]
  unfold eraseL
  rw [List.map_append, er_new N _ _ _ _ _ hN]
end Go.Proofs.Ythniobpmaahggaa

namespace Go.Proofs.Ythniobpmaahggaa
set_option maxRecDepth 100000
open Go.RowKit

theorem rdp_set {w : World} {A : Option Addr} {n c : Nat} {l : List P11} (h : RdP w A n c l) {g : Nat} {cs : Array Value} {t : TypeId} {fr : Nat × Nat} (hg : w.heap[g]? = some (.cells cs t fr)) (hs : cs.size ≤ 10) (j : Nat) (v : Value) : RdP (w.setCell ⟨g, j, none⟩ v) A n c l := by
  obtain ⟨hl, h1, h2, hx⟩ := h
  refine ⟨hl, h1, h2, fun h0 => ?_⟩
  obtain ⟨b, o, rfl, hb, hc⟩ := hx h0
  have hbg : b ≠ g := by
    intro e
    subst e
    have h3 := hc 0 (by omega) 10 _ rfl
    rw [cell_row hg] at h3
    have h4 := (Array.getElem?_eq_some_iff.1 h3).1
    omega
  refine ⟨b, o, rfl, by rw [World.size_setCell]; exact hb, fun q hq i u hu => ?_⟩
  rw [World.cell?_setCell_other _ _ _ _ (by intro e; simp only [Addr.mk.injEq] at e; exact hbg (by first | exact e.1 | exact e.1.symm))]
  exact hc q hq i u hu
theorem rdp_set5 {w : World} {A : Option Addr} {n c : Nat} {l : List P11} (h : RdP w A n c l) {g : Nat} {k : Int} {u : V3} {s : Value} (hg : w.heap[g]? = some (cellRow k u s)) (x y z a b : Value) :
    RdP (((((w.setCell ⟨g, 0, none⟩ x).setCell ⟨g, 1, none⟩ y).setCell ⟨g, 2, none⟩ z).setCell ⟨g, 3, none⟩ a).setCell ⟨g, 4, none⟩ b) A n c l := by
  have r1 := set_row hg 0 x
  have r2 := set_row r1 1 y
  have r3 := set_row r2 2 z
  have r4 := set_row r3 3 a
  exact rdp_set (rdp_set (rdp_set (rdp_set (rdp_set h hg (by simp) 0 x) r1 (by simp) 1 y) r2 (by simp) 2 z) r3 (by simp) 3 a) r4 (by simp) 4 b

theorem below_set5 {w0 w : World} {B g : Nat} {x y z a b : Value} (h : Below B w0 w) (hg : B ≤ g) : Below B w0 (((((w.setCell ⟨g, 0, none⟩ x).setCell ⟨g, 1, none⟩ y).setCell ⟨g, 2, none⟩ z).setCell ⟨g, 3, none⟩ a).setCell ⟨g, 4, none⟩ b) :=
  ((((h.setCell hg x).setCell hg y).setCell hg z).setCell hg a).setCell hg b

theorem nested_row9 (w : World) (o o' : Obj) : ((w.alloc o).alloc o').heap[w.heap.size]? = some o := row_below (heap_alloc_new w o) (below_new (Below.refl _ _) o')

theorem below_set5h {w0 w : World} {B g : Nat} {o : Obj} {x y z a b : Value} (_ : w.heap[g]? = some o) (h : Below B w0 w) (hg : B ≤ g) : Below B w0 (((((w.setCell ⟨g, 0, none⟩ x).setCell ⟨g, 1, none⟩ y).setCell ⟨g, 2, none⟩ z).setCell ⟨g, 3, none⟩ a).setCell ⟨g, 4, none⟩ b) := below_set5 h hg

theorem at_world {K : Act → World → Prop} {Q : Exit → Act → World → Prop} {a : Act} {Z : World} (i j : Nat) {g h : Nat} (_hi : a.tmps.getD i undef = .pointer (some ⟨g, 0, none⟩)) (_hj : a.tmps.getD j undef = .pointer (some ⟨h, 0, none⟩)) (F : Nat → Nat → World → Prop)
    (h1 : F g h Z) (h2 : ∀ Z', F g h Z' → Exit.then K Q .normal a Z') : Exit.then K Q .normal a Z := h2 Z h1

end Go.Proofs.Ythniobpmaahggaa

namespace Go.Proofs.Ythniobpmaahggaa.textGone
open Go.ChangeShapes Go.WideShapes Go.ChangeAt Go.RowKit Go.ChangeMaps

set_option maxRecDepth 100000 in
set_option maxHeartbeats 12800000 in
theorem walk (k : Int) (u : V3) (A : Option Addr) (n c : Nat) (l : List P11) (dx dy i ex ey j st sd sq : Int) (s : ByteArray) (w : World) (h : RdP w A n c l) :
    Calls Try.prog 7 #[cellV k u (.slice A n c), .agg #[.int .i64 dx, .int .i64 dy], .int .i64 i, .agg #[.int .i64 ex, .int .i64 ey], .int .i64 j, .agg #[.int .i64 st, .int .i64 sd, .int .i64 sq], .string s] w fun e w' => e = .returned (.bool true) ∧ Below w.heap.size w w' := by
  have HB := Lib.hid (Below.refl w.heap.size w)
  have HLN := Lib.hid h.len
  have hle := h.le
  have RD := Lib.hid h
  clear h
  obtain ⟨r, hr⟩ : ∃ r, Hid (rightT10 k u l = r) := ⟨_, rfl⟩
  by_cases hn : n ≤ 40
  rotate_left
  · have FW : Hid (∀ W : World, Calls Try.prog 9 #[cellV k u (.slice A n c)] W fun e w' => e = .returned (.bool false) ∧ Below W.heap.size W w') := by
      intro W
      have := small_any k u A n c W
      rwa [decide_eq_false (by omega)] at this
    clear hn
    obtain ⟨g, hg⟩ : ∃ g, g = w.heap.size := ⟨_, rfl⟩
    obtain ⟨w0, hw0⟩ : ∃ w1, w1 = ((((w.alloc (cellRow k u (.slice A n c))).alloc (dotRowT ⟨dx, dy⟩)).alloc (dotRowT ⟨ex, ey⟩)).alloc (.cells #[.int .i64 st, .int .i64 sd, .int .i64 sq] 42)) := ⟨_, rfl⟩
    have HW0 := Lib.hid hw0; have HG := Lib.hid hg
    have hat : ∀ (w : World) (o : Obj) (g : Nat), w.heap.size = g → (w.alloc o).heap[g]? = some o := fun w o g h => by subst h; exact heap_alloc_new _ _
    have bb : Below w.heap.size w w0 := by rw [hw0]; exact below_new (below_new (below_new (below_new (Below.refl _ _) _) _) _) _
    have RX : Hid (w0.heap[g]? = some (cellRow k u (.slice A n c))) := by
      show _ = _
      rw [hw0, hg]
      rw [Below.heap_alloc _ _ _ (by simp only [World.size_alloc]; omega), Below.heap_alloc _ _ _ (by simp only [World.size_alloc]; omega), Below.heap_alloc _ _ _ (by simp only [World.size_alloc]; omega)]
      exact hat _ _ _ rfl
    have RP : Hid (w0.heap[g + 1]? = some (dotRowT ⟨dx, dy⟩)) := by
      show _ = _
      rw [hw0, hg]
      rw [Below.heap_alloc _ _ _ (by simp only [World.size_alloc]; omega), Below.heap_alloc _ _ _ (by simp only [World.size_alloc]; omega)]
      exact hat _ _ _ (by simp only [World.size_alloc])
    have RQ : Hid (w0.heap[g + 2]? = some (dotRowT ⟨ex, ey⟩)) := by
      show _ = _
      rw [hw0, hg]
      rw [Below.heap_alloc _ _ _ (by simp only [World.size_alloc]; omega)]
      exact hat _ _ _ (by simp only [World.size_alloc])
    have RS : Hid (w0.heap[g + 3]? = some (.cells #[.int .i64 st, .int .i64 sd, .int .i64 sq] 42)) := by
      show _ = _
      rw [hw0, hg]
      skip
      exact hat _ _ _ (by simp only [World.size_alloc])
    replace RD := Lib.hid (RD.out.below bb)
    replace HB := Lib.hid (below_then HB.out bb)
    clear bb hg hw0 hat
    go_enter Try.func7, Try.ntmps7
    go_upto_region 1 with fail
    rw [← HG.out]
    rw [show ((((w.alloc (Obj.cells #[Value.int .i64 k, .int .i64 u.k, .int .i64 u.n, .string u.s, .slice A n c] 26)).alloc (Obj.cells #[Value.int .i64 dx, .int .i64 dy] 37)).alloc (Obj.cells #[Value.int .i64 ex, .int .i64 ey] 37)).alloc (Obj.cells #[Value.int .i64 st, .int .i64 sd, .int .i64 sq] 42)) = w0 from HW0.out.symm]
    clear HW0
    go_wp2_with fail
    refine (alive10_any _).mono ?_
    rintro e v1 ⟨rfl, bb⟩
    replace RX := Lib.hid (row_below RX.out bb)
    replace RP := Lib.hid (row_below RP.out bb)
    replace RQ := Lib.hid (row_below RQ.out bb)
    replace RS := Lib.hid (row_below RS.out bb)
    replace RD := Lib.hid (RD.out.below bb)
    replace HB := Lib.hid (below_then HB.out bb)
    clear bb
    obtain ⟨RX0, RX1, RX2, RX3, RX4⟩ := cell_row5 RX.out
    go_wp2_with fail
    refine (FW.out _).mono ?_
    rintro e v2 ⟨rfl, bb⟩
    replace RX := Lib.hid (row_below RX.out bb)
    replace RP := Lib.hid (row_below RP.out bb)
    replace RQ := Lib.hid (row_below RQ.out bb)
    replace RS := Lib.hid (row_below RS.out bb)
    replace RD := Lib.hid (RD.out.below bb)
    replace HB := Lib.hid (below_then HB.out bb)
    clear bb
    clear RX0 RX1 RX2 RX3 RX4
    go_wp2_with fail
    go_ret
    exact ⟨rfl, HB.out⟩
  by_cases hs : s.size ≤ 10
  rotate_left
  · have FW : Hid (∀ W : World, Calls Try.prog 9 #[cellV k u (.slice A n c)] W fun e w' => e = .returned (.bool true) ∧ Below W.heap.size W w') := by
      intro W
      have := small_any k u A n c W
      rwa [decide_eq_true (by omega)] at this
    have hs1 : (10 : Int) < (s.size : Int) := by omega
    clear hn hs
    obtain ⟨g, hg⟩ : ∃ g, g = w.heap.size := ⟨_, rfl⟩
    obtain ⟨w0, hw0⟩ : ∃ w1, w1 = ((((w.alloc (cellRow k u (.slice A n c))).alloc (dotRowT ⟨dx, dy⟩)).alloc (dotRowT ⟨ex, ey⟩)).alloc (.cells #[.int .i64 st, .int .i64 sd, .int .i64 sq] 42)) := ⟨_, rfl⟩
    have HW0 := Lib.hid hw0; have HG := Lib.hid hg
    have hat : ∀ (w : World) (o : Obj) (g : Nat), w.heap.size = g → (w.alloc o).heap[g]? = some o := fun w o g h => by subst h; exact heap_alloc_new _ _
    have bb : Below w.heap.size w w0 := by rw [hw0]; exact below_new (below_new (below_new (below_new (Below.refl _ _) _) _) _) _
    have RX : Hid (w0.heap[g]? = some (cellRow k u (.slice A n c))) := by
      show _ = _
      rw [hw0, hg]
      rw [Below.heap_alloc _ _ _ (by simp only [World.size_alloc]; omega), Below.heap_alloc _ _ _ (by simp only [World.size_alloc]; omega), Below.heap_alloc _ _ _ (by simp only [World.size_alloc]; omega)]
      exact hat _ _ _ rfl
    have RP : Hid (w0.heap[g + 1]? = some (dotRowT ⟨dx, dy⟩)) := by
      show _ = _
      rw [hw0, hg]
      rw [Below.heap_alloc _ _ _ (by simp only [World.size_alloc]; omega), Below.heap_alloc _ _ _ (by simp only [World.size_alloc]; omega)]
      exact hat _ _ _ (by simp only [World.size_alloc])
    have RQ : Hid (w0.heap[g + 2]? = some (dotRowT ⟨ex, ey⟩)) := by
      show _ = _
      rw [hw0, hg]
      rw [Below.heap_alloc _ _ _ (by simp only [World.size_alloc]; omega)]
      exact hat _ _ _ (by simp only [World.size_alloc])
    have RS : Hid (w0.heap[g + 3]? = some (.cells #[.int .i64 st, .int .i64 sd, .int .i64 sq] 42)) := by
      show _ = _
      rw [hw0, hg]
      skip
      exact hat _ _ _ (by simp only [World.size_alloc])
    replace RD := Lib.hid (RD.out.below bb)
    replace HB := Lib.hid (below_then HB.out bb)
    clear bb hg hw0 hat
    go_enter Try.func7, Try.ntmps7
    go_upto_region 1 with fail
    rw [← HG.out]
    rw [show ((((w.alloc (Obj.cells #[Value.int .i64 k, .int .i64 u.k, .int .i64 u.n, .string u.s, .slice A n c] 26)).alloc (Obj.cells #[Value.int .i64 dx, .int .i64 dy] 37)).alloc (Obj.cells #[Value.int .i64 ex, .int .i64 ey] 37)).alloc (Obj.cells #[Value.int .i64 st, .int .i64 sd, .int .i64 sq] 42)) = w0 from HW0.out.symm]
    clear HW0
    go_wp2_with fail
    refine (alive10_any _).mono ?_
    rintro e v1 ⟨rfl, bb⟩
    replace RX := Lib.hid (row_below RX.out bb)
    replace RP := Lib.hid (row_below RP.out bb)
    replace RQ := Lib.hid (row_below RQ.out bb)
    replace RS := Lib.hid (row_below RS.out bb)
    replace RD := Lib.hid (RD.out.below bb)
    replace HB := Lib.hid (below_then HB.out bb)
    clear bb
    obtain ⟨RX0, RX1, RX2, RX3, RX4⟩ := cell_row5 RX.out
    go_wp2_with fail
    refine (FW.out _).mono ?_
    rintro e v2 ⟨rfl, bb⟩
    replace RX := Lib.hid (row_below RX.out bb)
    replace RP := Lib.hid (row_below RP.out bb)
    replace RQ := Lib.hid (row_below RQ.out bb)
    replace RS := Lib.hid (row_below RS.out bb)
    replace RD := Lib.hid (RD.out.below bb)
    replace HB := Lib.hid (below_then HB.out bb)
    clear bb
    clear RX0 RX1 RX2 RX3 RX4
    go_wp2_with fail
    go_ret
    exact ⟨rfl, HB.out⟩
  by_cases hr0 : r = 0
  rotate_left
  · have FW : Hid (∀ W : World, Calls Try.prog 9 #[cellV k u (.slice A n c)] W fun e w' => e = .returned (.bool true) ∧ Below W.heap.size W w') := by
      intro W
      have := small_any k u A n c W
      rwa [decide_eq_true (by omega)] at this
    have CR : Hid (∀ W : World, RdP W A n c l → Calls Try.prog 10 #[cellV k u (.slice A n c)] W fun e w' => e = .returned (.int .i64 r) ∧ Below W.heap.size W w') := by
      intro W hW
      have := rightT_any k u A n c l W hW (by omega)
      rwa [hr.out] at this
    have hs1 : ¬ (10 : Int) < (s.size : Int) := by omega
    have hr1 : (r == 0) = false := by simpa using hr0
    have hr2 : (r != 0) = true := by simpa using hr0
    clear hn hs hr0
    obtain ⟨g, hg⟩ : ∃ g, g = w.heap.size := ⟨_, rfl⟩
    obtain ⟨w0, hw0⟩ : ∃ w1, w1 = ((((w.alloc (cellRow k u (.slice A n c))).alloc (dotRowT ⟨dx, dy⟩)).alloc (dotRowT ⟨ex, ey⟩)).alloc (.cells #[.int .i64 st, .int .i64 sd, .int .i64 sq] 42)) := ⟨_, rfl⟩
    have HW0 := Lib.hid hw0; have HG := Lib.hid hg
    have hat : ∀ (w : World) (o : Obj) (g : Nat), w.heap.size = g → (w.alloc o).heap[g]? = some o := fun w o g h => by subst h; exact heap_alloc_new _ _
    have bb : Below w.heap.size w w0 := by rw [hw0]; exact below_new (below_new (below_new (below_new (Below.refl _ _) _) _) _) _
    have RX : Hid (w0.heap[g]? = some (cellRow k u (.slice A n c))) := by
      show _ = _
      rw [hw0, hg]
      rw [Below.heap_alloc _ _ _ (by simp only [World.size_alloc]; omega), Below.heap_alloc _ _ _ (by simp only [World.size_alloc]; omega), Below.heap_alloc _ _ _ (by simp only [World.size_alloc]; omega)]
      exact hat _ _ _ rfl
    have RP : Hid (w0.heap[g + 1]? = some (dotRowT ⟨dx, dy⟩)) := by
      show _ = _
      rw [hw0, hg]
      rw [Below.heap_alloc _ _ _ (by simp only [World.size_alloc]; omega), Below.heap_alloc _ _ _ (by simp only [World.size_alloc]; omega)]
      exact hat _ _ _ (by simp only [World.size_alloc])
    have RQ : Hid (w0.heap[g + 2]? = some (dotRowT ⟨ex, ey⟩)) := by
      show _ = _
      rw [hw0, hg]
      rw [Below.heap_alloc _ _ _ (by simp only [World.size_alloc]; omega)]
      exact hat _ _ _ (by simp only [World.size_alloc])
    have RS : Hid (w0.heap[g + 3]? = some (.cells #[.int .i64 st, .int .i64 sd, .int .i64 sq] 42)) := by
      show _ = _
      rw [hw0, hg]
      skip
      exact hat _ _ _ (by simp only [World.size_alloc])
    replace RD := Lib.hid (RD.out.below bb)
    replace HB := Lib.hid (below_then HB.out bb)
    clear bb hg hw0 hat
    go_enter Try.func7, Try.ntmps7
    go_upto_region 1 with fail
    rw [← HG.out]
    rw [show ((((w.alloc (Obj.cells #[Value.int .i64 k, .int .i64 u.k, .int .i64 u.n, .string u.s, .slice A n c] 26)).alloc (Obj.cells #[Value.int .i64 dx, .int .i64 dy] 37)).alloc (Obj.cells #[Value.int .i64 ex, .int .i64 ey] 37)).alloc (Obj.cells #[Value.int .i64 st, .int .i64 sd, .int .i64 sq] 42)) = w0 from HW0.out.symm]
    clear HW0
    go_wp2_with fail
    refine (alive10_any _).mono ?_
    rintro e v1 ⟨rfl, bb⟩
    replace RX := Lib.hid (row_below RX.out bb)
    replace RP := Lib.hid (row_below RP.out bb)
    replace RQ := Lib.hid (row_below RQ.out bb)
    replace RS := Lib.hid (row_below RS.out bb)
    replace RD := Lib.hid (RD.out.below bb)
    replace HB := Lib.hid (below_then HB.out bb)
    clear bb
    obtain ⟨RX0, RX1, RX2, RX3, RX4⟩ := cell_row5 RX.out
    go_wp2_with fail
    refine (FW.out _).mono ?_
    rintro e v2 ⟨rfl, bb⟩
    replace RX := Lib.hid (row_below RX.out bb)
    replace RP := Lib.hid (row_below RP.out bb)
    replace RQ := Lib.hid (row_below RQ.out bb)
    replace RS := Lib.hid (row_below RS.out bb)
    replace RD := Lib.hid (RD.out.below bb)
    replace HB := Lib.hid (below_then HB.out bb)
    clear bb
    clear RX0 RX1 RX2 RX3 RX4
    obtain ⟨RX0, RX1, RX2, RX3, RX4⟩ := cell_row5 RX.out
    go_wp2_with fail
    refine (CR.out _ RD.out).mono ?_
    rintro e v3 ⟨rfl, bb⟩
    replace RX := Lib.hid (row_below RX.out bb)
    replace RP := Lib.hid (row_below RP.out bb)
    replace RQ := Lib.hid (row_below RQ.out bb)
    replace RS := Lib.hid (row_below RS.out bb)
    replace RD := Lib.hid (RD.out.below bb)
    replace HB := Lib.hid (below_then HB.out bb)
    clear bb
    clear RX0 RX1 RX2 RX3 RX4
    go_wp2_with fail
    go_ret
    exact ⟨rfl, HB.out⟩
  subst hr0
  have FW : Hid (∀ W : World, Calls Try.prog 9 #[cellV k u (.slice A n c)] W fun e w' => e = .returned (.bool true) ∧ Below W.heap.size W w') := by
    intro W
    have := small_any k u A n c W
    rwa [decide_eq_true (by omega)] at this
  have CR : Hid (∀ W : World, RdP W A n c l → Calls Try.prog 10 #[cellV k u (.slice A n c)] W fun e w' => e = .returned (.int .i64 0) ∧ Below W.heap.size W w') := by
    intro W hW
    have := rightT_any k u A n c l W hW (by omega)
    rwa [hr.out] at this
  have hs1 : ¬ (10 : Int) < (s.size : Int) := by omega
  have hn6 : n ≤ 4294967000 := by omega
  obtain ⟨L1, hL1⟩ : ∃ L, Hid (eraseL l ⟨⟨dx, dy⟩, i⟩ = L) := ⟨_, rfl⟩
  obtain ⟨L2, hL2⟩ : ∃ L, Hid (eraseL L1 ⟨⟨ex, ey⟩, j⟩ = L) := ⟨_, rfl⟩
  obtain ⟨Lq, hLq⟩ : ∃ L, Hid (eraseL l ⟨⟨ex, ey⟩, j⟩ = L) := ⟨_, rfl⟩
  have hr1 : Hid (rightT10 k u L1 = 0) := by show _ = _; rw [← hL1.out]; exact er_right hr.out _
  have hr2 : Hid (rightT10 k u L2 = 0) := by show _ = _; rw [← hL2.out]; exact er_right hr1.out _
  have E1 : Hid (∀ W : World, RdP W A n c l → Calls Try.prog 20 #[cellV k u (.slice A n c), .agg #[.int .i64 dx, .int .i64 dy], .int .i64 i] W fun e w' => ∃ A' c', e = .returned (cellV k u (.slice A' n c')) ∧ RdP w' A' n c' L1 ∧ Below W.heap.size W w') := by
    intro W hW
    refine (eraseT_any k u A n c l ⟨dx, dy⟩ i W hW (by omega)).mono ?_
    rintro e w' ⟨A', c', h1, h2, h3, _⟩
    rw [show eraseL l ⟨⟨dx, dy⟩, i⟩ = L1 from hL1.out] at h2
    exact ⟨A', c', h1, h2, h3⟩
  have E2 : Hid (∀ (A1 : Option Addr) (d1 : Nat) (W : World), RdP W A1 n d1 L1 → Calls Try.prog 20 #[cellV k u (.slice A1 n d1), .agg #[.int .i64 ex, .int .i64 ey], .int .i64 j] W fun e w' => ∃ A' c', e = .returned (cellV k u (.slice A' n c')) ∧ RdP w' A' n c' L2 ∧ Below W.heap.size W w') := by
    intro A1 d1 W hW
    refine (eraseT_any k u A1 n d1 L1 ⟨ex, ey⟩ j W hW (by omega)).mono ?_
    rintro e w' ⟨A', c', h1, h2, h3, _⟩
    rw [show eraseL L1 ⟨⟨ex, ey⟩, j⟩ = L2 from hL2.out] at h2
    exact ⟨A', c', h1, h2, h3⟩
  have E3 : Hid (∀ W : World, RdP W A n c l → Calls Try.prog 20 #[cellV k u (.slice A n c), .agg #[.int .i64 ex, .int .i64 ey], .int .i64 j] W fun e w' => ∃ A' c', e = .returned (cellV k u (.slice A' n c')) ∧ RdP w' A' n c' Lq ∧ Below W.heap.size W w') := by
    intro W hW
    refine (eraseT_any k u A n c l ⟨ex, ey⟩ j W hW (by omega)).mono ?_
    rintro e w' ⟨A', c', h1, h2, h3, _⟩
    rw [show eraseL l ⟨⟨ex, ey⟩, j⟩ = Lq from hLq.out] at h2
    exact ⟨A', c', h1, h2, h3⟩
  have E4 : Hid (∀ (A1 : Option Addr) (d1 : Nat) (W : World), RdP W A1 n d1 Lq → Calls Try.prog 20 #[cellV k u (.slice A1 n d1), .agg #[.int .i64 dx, .int .i64 dy], .int .i64 i] W fun e w' => ∃ A' c', e = .returned (cellV k u (.slice A' n c')) ∧ RdP w' A' n c' L2 ∧ Below W.heap.size W w') := by
    intro A1 d1 W hW
    refine (eraseT_any k u A1 n d1 Lq ⟨dx, dy⟩ i W hW (by omega)).mono ?_
    rintro e w' ⟨A', c', h1, h2, h3, _⟩
    rw [show eraseL Lq ⟨⟨dx, dy⟩, i⟩ = L2 from (by rw [← hLq.out, ← hL2.out, ← hL1.out]; exact eraseL_swap l _ _)] at h2
    exact ⟨A', c', h1, h2, h3⟩
  have E5 : Hid (∀ (A1 : Option Addr) (d1 : Nat) (W : World), RdP W A1 n d1 L1 → Calls Try.prog 20 #[cellV k u (.slice A1 n d1), .agg #[.int .i64 dx, .int .i64 dy], .int .i64 i] W fun e w' => ∃ A' c', e = .returned (cellV k u (.slice A' n c')) ∧ RdP w' A' n c' L1 ∧ Below W.heap.size W w') := by
    intro A1 d1 W hW
    refine (eraseT_any k u A1 n d1 L1 ⟨dx, dy⟩ i W hW (by omega)).mono ?_
    rintro e w' ⟨A', c', h1, h2, h3, _⟩
    rw [show eraseL L1 ⟨⟨dx, dy⟩, i⟩ = L1 from (by rw [← hL1.out]; exact eraseL_twice l _)] at h2
    exact ⟨A', c', h1, h2, h3⟩
  have SM : Hid (∀ (m : Nat) (A1 : Option Addr) (d1 : Nat) (A2 : Option Addr) (d2 : Nat) (L : List P11) (W : World), RdP W A1 m d1 L → RdP W A2 m d2 L → Calls Try.prog 17 #[cellV k u (.slice A1 m d1), cellV k u (.slice A2 m d2)] W fun e w' => e = .returned (.bool true) ∧ Below W.heap.size W w') := by
    intro m A1 d1 A2 d2 L W h1 h2
    have := sameC_any k u A1 m d1 L k u A2 m d2 L W h1 h2
    rwa [show sameC k u L k u L = true by simp [sameC]] at this
  have RT : Hid (∀ (A1 : Option Addr) (d1 : Nat) (W : World), RdP W A1 n d1 L2 → Calls Try.prog 10 #[cellV k u (.slice A1 n d1)] W fun e w' => e = .returned (.int .i64 0) ∧ Below W.heap.size W w') := by
    intro A1 d1 W hW
    have := rightT_any k u A1 n d1 L2 W hW hn6
    rwa [hr2.out] at this
  have hMay : Hid (mayT k u L1 s.size ⟨st, sd, sq⟩ ⟨⟨dx, dy⟩, i⟩ = mayT k u l s.size ⟨st, sd, sq⟩ ⟨⟨dx, dy⟩, i⟩) := by show _ = _; rw [← hL1.out]; exact er_may hr.out _ _ _ _
  clear hr1 hr2 hs
  obtain ⟨g, hg⟩ : ∃ g, g = w.heap.size := ⟨_, rfl⟩
  obtain ⟨w0, hw0⟩ : ∃ w1, w1 = ((((w.alloc (cellRow k u (.slice A n c))).alloc (dotRowT ⟨dx, dy⟩)).alloc (dotRowT ⟨ex, ey⟩)).alloc (.cells #[.int .i64 st, .int .i64 sd, .int .i64 sq] 42)) := ⟨_, rfl⟩
  have HW0 := Lib.hid hw0; have HG := Lib.hid hg
  have hat : ∀ (w : World) (o : Obj) (g : Nat), w.heap.size = g → (w.alloc o).heap[g]? = some o := fun w o g h => by subst h; exact heap_alloc_new _ _
  have bb : Below w.heap.size w w0 := by rw [hw0]; exact below_new (below_new (below_new (below_new (Below.refl _ _) _) _) _) _
  have RX : Hid (w0.heap[g]? = some (cellRow k u (.slice A n c))) := by
    show _ = _
    rw [hw0, hg]
    rw [Below.heap_alloc _ _ _ (by simp only [World.size_alloc]; omega), Below.heap_alloc _ _ _ (by simp only [World.size_alloc]; omega), Below.heap_alloc _ _ _ (by simp only [World.size_alloc]; omega)]
    exact hat _ _ _ rfl
  have RP : Hid (w0.heap[g + 1]? = some (dotRowT ⟨dx, dy⟩)) := by
    show _ = _
    rw [hw0, hg]
    rw [Below.heap_alloc _ _ _ (by simp only [World.size_alloc]; omega), Below.heap_alloc _ _ _ (by simp only [World.size_alloc]; omega)]
    exact hat _ _ _ (by simp only [World.size_alloc])
  have RQ : Hid (w0.heap[g + 2]? = some (dotRowT ⟨ex, ey⟩)) := by
    show _ = _
    rw [hw0, hg]
    rw [Below.heap_alloc _ _ _ (by simp only [World.size_alloc]; omega)]
    exact hat _ _ _ (by simp only [World.size_alloc])
  have RS : Hid (w0.heap[g + 3]? = some (.cells #[.int .i64 st, .int .i64 sd, .int .i64 sq] 42)) := by
    show _ = _
    rw [hw0, hg]
    skip
    exact hat _ _ _ (by simp only [World.size_alloc])
  replace RD := Lib.hid (RD.out.below bb)
  replace HB := Lib.hid (below_then HB.out bb)
  clear bb hg hw0 hat
  go_enter Try.func7, Try.ntmps7
  go_upto_region 1 with fail
  rw [← HG.out]
  rw [show ((((w.alloc (Obj.cells #[Value.int .i64 k, .int .i64 u.k, .int .i64 u.n, .string u.s, .slice A n c] 26)).alloc (Obj.cells #[Value.int .i64 dx, .int .i64 dy] 37)).alloc (Obj.cells #[Value.int .i64 ex, .int .i64 ey] 37)).alloc (Obj.cells #[Value.int .i64 st, .int .i64 sd, .int .i64 sq] 42)) = w0 from HW0.out.symm]
  clear HW0
  go_wp2_with fail
  refine (alive10_any _).mono ?_
  rintro e v1 ⟨rfl, bb⟩
  replace RX := Lib.hid (row_below RX.out bb)
  replace RP := Lib.hid (row_below RP.out bb)
  replace RQ := Lib.hid (row_below RQ.out bb)
  replace RS := Lib.hid (row_below RS.out bb)
  replace RD := Lib.hid (RD.out.below bb)
  replace HB := Lib.hid (below_then HB.out bb)
  clear bb
  obtain ⟨RX0, RX1, RX2, RX3, RX4⟩ := cell_row5 RX.out
  go_wp2_with fail
  refine (FW.out _).mono ?_
  rintro e v2 ⟨rfl, bb⟩
  replace RX := Lib.hid (row_below RX.out bb)
  replace RP := Lib.hid (row_below RP.out bb)
  replace RQ := Lib.hid (row_below RQ.out bb)
  replace RS := Lib.hid (row_below RS.out bb)
  replace RD := Lib.hid (RD.out.below bb)
  replace HB := Lib.hid (below_then HB.out bb)
  clear bb
  clear RX0 RX1 RX2 RX3 RX4
  obtain ⟨RX0, RX1, RX2, RX3, RX4⟩ := cell_row5 RX.out
  go_wp2_with fail
  refine (CR.out _ RD.out).mono ?_
  rintro e v3 ⟨rfl, bb⟩
  replace RX := Lib.hid (row_below RX.out bb)
  replace RP := Lib.hid (row_below RP.out bb)
  replace RQ := Lib.hid (row_below RQ.out bb)
  replace RS := Lib.hid (row_below RS.out bb)
  replace RD := Lib.hid (RD.out.below bb)
  replace HB := Lib.hid (below_then HB.out bb)
  clear bb
  clear RX0 RX1 RX2 RX3 RX4
  clear FW CR
  obtain ⟨RX0, RX1, RX2, RX3, RX4⟩ := cell_row5 RX.out
  obtain ⟨RP0, RP1⟩ := dot_rowT RP.out
  try dsimp only at RP0 RP1
  go_wp2_with fail
  refine (E1.out _ RD.out).mono ?_
  rintro e v4 ⟨A1, d1, rfl, r1, bb⟩
  replace RX := Lib.hid (row_below RX.out bb)
  replace RP := Lib.hid (row_below RP.out bb)
  replace RQ := Lib.hid (row_below RQ.out bb)
  replace RS := Lib.hid (row_below RS.out bb)
  replace RD := Lib.hid (RD.out.below bb)
  replace HB := Lib.hid (below_then HB.out bb)
  clear bb
  have RL1 := Lib.hid r1
  clear r1
  clear RX0 RX1 RX2 RX3 RX4 RP0 RP1
  obtain ⟨v5, hw⟩ : ∃ w', w' = v4.alloc (cellRow k u (.slice A1 n d1)) := ⟨_, rfl⟩
  have R1 : Hid (v5.heap[v4.heap.size]? = some (cellRow k u (.slice A1 n d1))) := by rw [hw]; exact heap_alloc_new _ _
  have bb : Below v4.heap.size v4 v5 := by rw [hw]; exact below_new (Below.refl _ _) _
  replace hw := Lib.hid hw
  replace RX := Lib.hid (row_below RX.out bb)
  replace RP := Lib.hid (row_below RP.out bb)
  replace RQ := Lib.hid (row_below RQ.out bb)
  replace RS := Lib.hid (row_below RS.out bb)
  replace RD := Lib.hid (RD.out.below bb)
  replace RL1 := Lib.hid (RL1.out.below bb)
  replace HB := Lib.hid (below_then HB.out bb)
  clear bb
  go_upto_region 5 with fail
  rw [show v4.alloc (Obj.cells #[Value.int .i64 k, .int .i64 u.k, .int .i64 u.n, .string u.s, .slice A1 n d1] 26) = v5 from hw.out.symm]
  clear hw
  generalize v4.heap.size = gR1 at R1 ⊢
  obtain ⟨R10, R11, R12, R13, R14⟩ := cell_row5 R1.out
  obtain ⟨RQ0, RQ1⟩ := dot_rowT RQ.out
  try dsimp only at RQ0 RQ1
  go_wp2_with fail
  refine (E2.out _ _ _ RL1.out).mono ?_
  rintro e v6 ⟨A2, d2, rfl, r2, bb⟩
  replace RX := Lib.hid (row_below RX.out bb)
  replace RP := Lib.hid (row_below RP.out bb)
  replace RQ := Lib.hid (row_below RQ.out bb)
  replace RS := Lib.hid (row_below RS.out bb)
  replace R1 := Lib.hid (row_below R1.out bb)
  replace RD := Lib.hid (RD.out.below bb)
  replace RL1 := Lib.hid (RL1.out.below bb)
  replace HB := Lib.hid (below_then HB.out bb)
  clear bb
  have RL2 := Lib.hid r2
  clear r2
  clear R10 R11 R12 R13 R14 RQ0 RQ1
  obtain ⟨v7, hw⟩ : ∃ w', w' = v6.alloc (cellRow k u (.slice A2 n d2)) := ⟨_, rfl⟩
  have R2 : Hid (v7.heap[v6.heap.size]? = some (cellRow k u (.slice A2 n d2))) := by rw [hw]; exact heap_alloc_new _ _
  have bb : Below v6.heap.size v6 v7 := by rw [hw]; exact below_new (Below.refl _ _) _
  replace hw := Lib.hid hw
  replace RX := Lib.hid (row_below RX.out bb)
  replace RP := Lib.hid (row_below RP.out bb)
  replace RQ := Lib.hid (row_below RQ.out bb)
  replace RS := Lib.hid (row_below RS.out bb)
  replace R1 := Lib.hid (row_below R1.out bb)
  replace RD := Lib.hid (RD.out.below bb)
  replace RL1 := Lib.hid (RL1.out.below bb)
  replace RL2 := Lib.hid (RL2.out.below bb)
  replace HB := Lib.hid (below_then HB.out bb)
  clear bb
  go_upto_region 6 with fail
  rw [show v6.alloc (Obj.cells #[Value.int .i64 k, .int .i64 u.k, .int .i64 u.n, .string u.s, .slice A2 n d2] 26) = v7 from hw.out.symm]
  clear hw
  generalize v6.heap.size = gR2 at R2 ⊢
  clear E1 E2
  go_upto_region 6 with fail
  go_cut [18] from 48 to 54 (fun s wz => ∃ gd A' d', s = .pointer (some ⟨gd, 0, none⟩) ∧ Hid (wz.heap[gd]? = some (cellRow k u (.slice A' n d'))) ∧ Hid (RdP wz A' n d' L2) ∧ Hid (Below v7.heap.size v7 wz))
  case first =>
    obtain ⟨RX0, RX1, RX2, RX3, RX4⟩ := cell_row5 RX.out
    obtain ⟨RP0, RP1⟩ := dot_rowT RP.out
    try dsimp only at RP0 RP1
    obtain ⟨RQ0, RQ1⟩ := dot_rowT RQ.out
    try dsimp only at RQ0 RQ1
    have hS0 : Below v7.heap.size v7 v7 ∧ v7.cell? ⟨g, 0, none⟩ = some (.int .i64 k) ∧ v7.cell? ⟨g, 1, none⟩ = some (.int .i64 u.k) ∧ v7.cell? ⟨g, 2, none⟩ = some (.int .i64 u.n) ∧ v7.cell? ⟨g, 3, none⟩ = some (.string u.s) ∧ v7.cell? ⟨g, 4, none⟩ = some (.slice A n c) ∧ v7.cell? ⟨g + 1, 0, none⟩ = some (.int .i64 dx) ∧ v7.cell? ⟨g + 1, 1, none⟩ = some (.int .i64 dy) ∧ v7.cell? ⟨g + 2, 0, none⟩ = some (.int .i64 ex) ∧ v7.cell? ⟨g + 2, 1, none⟩ = some (.int .i64 ey) := ⟨Below.refl _ _, RX0, RX1, RX2, RX3, RX4, RP0, RP1, RQ0, RQ1⟩
    have K : Hid (∀ W W' : World, (Below v7.heap.size v7 W ∧ W.cell? ⟨g, 0, none⟩ = some (.int .i64 k) ∧ W.cell? ⟨g, 1, none⟩ = some (.int .i64 u.k) ∧ W.cell? ⟨g, 2, none⟩ = some (.int .i64 u.n) ∧ W.cell? ⟨g, 3, none⟩ = some (.string u.s) ∧ W.cell? ⟨g, 4, none⟩ = some (.slice A n c) ∧ W.cell? ⟨g + 1, 0, none⟩ = some (.int .i64 dx) ∧ W.cell? ⟨g + 1, 1, none⟩ = some (.int .i64 dy) ∧ W.cell? ⟨g + 2, 0, none⟩ = some (.int .i64 ex) ∧ W.cell? ⟨g + 2, 1, none⟩ = some (.int .i64 ey)) → Below W.heap.size W W' → (Below v7.heap.size v7 W' ∧ W'.cell? ⟨g, 0, none⟩ = some (.int .i64 k) ∧ W'.cell? ⟨g, 1, none⟩ = some (.int .i64 u.k) ∧ W'.cell? ⟨g, 2, none⟩ = some (.int .i64 u.n) ∧ W'.cell? ⟨g, 3, none⟩ = some (.string u.s) ∧ W'.cell? ⟨g, 4, none⟩ = some (.slice A n c) ∧ W'.cell? ⟨g + 1, 0, none⟩ = some (.int .i64 dx) ∧ W'.cell? ⟨g + 1, 1, none⟩ = some (.int .i64 dy) ∧ W'.cell? ⟨g + 2, 0, none⟩ = some (.int .i64 ex) ∧ W'.cell? ⟨g + 2, 1, none⟩ = some (.int .i64 ey))) := by
      rintro W W' ⟨kk, k0, k1, k2, k3, k4, k5, k6, k7, k8⟩ hb
      have hc : ∀ (p : Addr) (y : Value), W.cell? p = some y → W'.cell? p = some y := fun p y h2 => (hb.cell (World.block_lt_of_cell? _ _ h2)).trans h2
      exact ⟨below_then kk hb, hc _ _ k0, hc _ _ k1, hc _ _ k2, hc _ _ k3, hc _ _ k4, hc _ _ k5, hc _ _ k6, hc _ _ k7, hc _ _ k8⟩
    have KA : Hid (∀ W, Below v7.heap.size v7 W → (Below v7.heap.size v7 W ∧ W.cell? ⟨g, 0, none⟩ = some (.int .i64 k) ∧ W.cell? ⟨g, 1, none⟩ = some (.int .i64 u.k) ∧ W.cell? ⟨g, 2, none⟩ = some (.int .i64 u.n) ∧ W.cell? ⟨g, 3, none⟩ = some (.string u.s) ∧ W.cell? ⟨g, 4, none⟩ = some (.slice A n c) ∧ W.cell? ⟨g + 1, 0, none⟩ = some (.int .i64 dx) ∧ W.cell? ⟨g + 1, 1, none⟩ = some (.int .i64 dy) ∧ W.cell? ⟨g + 2, 0, none⟩ = some (.int .i64 ex) ∧ W.cell? ⟨g + 2, 1, none⟩ = some (.int .i64 ey))) := fun W hb => K.out _ _ hS0 hb
    have K2 : Hid (∀ (W : World) (q : Nat) (s0 s1 s2 s3 s4 : Value), (Below v7.heap.size v7 W ∧ W.cell? ⟨g, 0, none⟩ = some (.int .i64 k) ∧ W.cell? ⟨g, 1, none⟩ = some (.int .i64 u.k) ∧ W.cell? ⟨g, 2, none⟩ = some (.int .i64 u.n) ∧ W.cell? ⟨g, 3, none⟩ = some (.string u.s) ∧ W.cell? ⟨g, 4, none⟩ = some (.slice A n c) ∧ W.cell? ⟨g + 1, 0, none⟩ = some (.int .i64 dx) ∧ W.cell? ⟨g + 1, 1, none⟩ = some (.int .i64 dy) ∧ W.cell? ⟨g + 2, 0, none⟩ = some (.int .i64 ex) ∧ W.cell? ⟨g + 2, 1, none⟩ = some (.int .i64 ey)) → v7.heap.size ≤ q → (Below v7.heap.size v7 (((((W.setCell ⟨q, 0, none⟩ s0).setCell ⟨q, 1, none⟩ s1).setCell ⟨q, 2, none⟩ s2).setCell ⟨q, 3, none⟩ s3).setCell ⟨q, 4, none⟩ s4) ∧ (((((W.setCell ⟨q, 0, none⟩ s0).setCell ⟨q, 1, none⟩ s1).setCell ⟨q, 2, none⟩ s2).setCell ⟨q, 3, none⟩ s3).setCell ⟨q, 4, none⟩ s4).cell? ⟨g, 0, none⟩ = some (.int .i64 k) ∧ (((((W.setCell ⟨q, 0, none⟩ s0).setCell ⟨q, 1, none⟩ s1).setCell ⟨q, 2, none⟩ s2).setCell ⟨q, 3, none⟩ s3).setCell ⟨q, 4, none⟩ s4).cell? ⟨g, 1, none⟩ = some (.int .i64 u.k) ∧ (((((W.setCell ⟨q, 0, none⟩ s0).setCell ⟨q, 1, none⟩ s1).setCell ⟨q, 2, none⟩ s2).setCell ⟨q, 3, none⟩ s3).setCell ⟨q, 4, none⟩ s4).cell? ⟨g, 2, none⟩ = some (.int .i64 u.n) ∧ (((((W.setCell ⟨q, 0, none⟩ s0).setCell ⟨q, 1, none⟩ s1).setCell ⟨q, 2, none⟩ s2).setCell ⟨q, 3, none⟩ s3).setCell ⟨q, 4, none⟩ s4).cell? ⟨g, 3, none⟩ = some (.string u.s) ∧ (((((W.setCell ⟨q, 0, none⟩ s0).setCell ⟨q, 1, none⟩ s1).setCell ⟨q, 2, none⟩ s2).setCell ⟨q, 3, none⟩ s3).setCell ⟨q, 4, none⟩ s4).cell? ⟨g, 4, none⟩ = some (.slice A n c) ∧ (((((W.setCell ⟨q, 0, none⟩ s0).setCell ⟨q, 1, none⟩ s1).setCell ⟨q, 2, none⟩ s2).setCell ⟨q, 3, none⟩ s3).setCell ⟨q, 4, none⟩ s4).cell? ⟨g + 1, 0, none⟩ = some (.int .i64 dx) ∧ (((((W.setCell ⟨q, 0, none⟩ s0).setCell ⟨q, 1, none⟩ s1).setCell ⟨q, 2, none⟩ s2).setCell ⟨q, 3, none⟩ s3).setCell ⟨q, 4, none⟩ s4).cell? ⟨g + 1, 1, none⟩ = some (.int .i64 dy) ∧ (((((W.setCell ⟨q, 0, none⟩ s0).setCell ⟨q, 1, none⟩ s1).setCell ⟨q, 2, none⟩ s2).setCell ⟨q, 3, none⟩ s3).setCell ⟨q, 4, none⟩ s4).cell? ⟨g + 2, 0, none⟩ = some (.int .i64 ex) ∧ (((((W.setCell ⟨q, 0, none⟩ s0).setCell ⟨q, 1, none⟩ s1).setCell ⟨q, 2, none⟩ s2).setCell ⟨q, 3, none⟩ s3).setCell ⟨q, 4, none⟩ s4).cell? ⟨g + 2, 1, none⟩ = some (.int .i64 ey))) := by
      rintro W q s0 s1 s2 s3 s4 hs hq
      exact KA.out _ (below_set5 hs.1 hq)
    clear RX0 RX1 RX2 RX3 RX4 RP0 RP1 RQ0 RQ1
    go_region_held3 (fun W => Below v7.heap.size v7 W ∧ W.cell? ⟨g, 0, none⟩ = some (.int .i64 k) ∧ W.cell? ⟨g, 1, none⟩ = some (.int .i64 u.k) ∧ W.cell? ⟨g, 2, none⟩ = some (.int .i64 u.n) ∧ W.cell? ⟨g, 3, none⟩ = some (.string u.s) ∧ W.cell? ⟨g, 4, none⟩ = some (.slice A n c) ∧ W.cell? ⟨g + 1, 0, none⟩ = some (.int .i64 dx) ∧ W.cell? ⟨g + 1, 1, none⟩ = some (.int .i64 dy) ∧ W.cell? ⟨g + 2, 0, none⟩ = some (.int .i64 ex) ∧ W.cell? ⟨g + 2, 1, none⟩ = some (.int .i64 ey))
      (first
        | with_reducible exact K.out _ _ hS0 ((Below.refl _ _).drew)
        | with_reducible exact KA.out _ (below_new HB9.out _)
        | with_reducible exact KA.out _ (below_set5 HB9.out (by first | exact Nat.le_refl _ | exact bx.size))
        | with_reducible exact KA.out _ HB9.out
        | with_reducible exact KA.out _ (below_new bx _)
        | with_reducible exact KA.out _ bx
        | with_reducible exact KA.out _ (below_new (Below.refl _ _) _)
        | with_reducible exact KA.out _ (below_new (Below.refl _ _) _).drew
        | with_reducible exact KA.out _ (below_new (Below.refl _ _).drew _)
        | with_reducible assumption
        | fail "S?")
      (first
        | (go_at_call 20
           with_reducible refine (E3.out _ ?_).mono ?_
           exact RD.out.below (by first | exact Below.refl _ _ | exact (Below.refl _ _).drew | (go_split_ands; assumption))
           rintro e wx ⟨Ai, di, rfl, hri, bb⟩
           have bx : Below v7.heap.size v7 wx := below_then (by first | exact Below.refl _ _ | exact (Below.refl _ _).drew | (go_split_ands; assumption)) bb
           have HRI := Lib.hid hri
           clear hri
           first
           | (refine use_row2 (g := v7.heap.size) (o := cellRow 0 ⟨0, 0, ⟨#[]⟩⟩ (.slice none 0 0)) bb ?hrow (fun rr hlt => ?_)
              case hrow =>
                repeat (first | assumption | (with_reducible refine heap_at ?_; first | done | omega | (simp only [World.size_alloc]; omega)) | with_reducible refine heap_drew ?_ | (with_reducible refine heap_past ?_ ?_; focus (first | done | omega | (simp only [World.size_alloc]; omega))))
                done
              have HZ := Lib.hid rr
              clear rr hlt)
           | skip)
        | (go_at_call 20; with_reducible refine (E4.out _ _ _ ?_).mono ?_; (first | with_reducible exact HRI.out | exact HRI.out.alloc _); rintro e wy ⟨A9, d9, rfl, hrd, bb⟩; have by2 : Below wx.heap.size wx wy := (by first | exact bb | exact below_then (below_new (Below.refl _ _) _) bb); (first | (have HZ9 := Lib.hid (row_below HZ.out by2)) | (have hz9 := row_below (o := (cellRow 0 ⟨0, 0, ⟨#[]⟩⟩ (.slice none 0 0))) (by first | exact heap_alloc_new _ _ | exact nested_row9 _ _ _) bb; (try simp only [World.size_alloc, World.size_drew] at hz9); have HZ9 := Lib.hid hz9; clear hz9) | skip); (try (obtain ⟨q0, q1, q2, q3, q4⟩ := cell_row5 HZ9.out; have f0 := frozen_row HZ9.out; dsimp only at q0 q1 q2 q3 q4)); have HRD := Lib.hid hrd; have HB9 := Lib.hid (below_then bx by2); clear hrd))
    all_goals
      first
        | (fail_if_success (have hq9 := HZ9)
           have T1 := Lib.hid (heap_alloc_new wy (cellRow k u (.slice A9 n d9)))
           have T2 := Lib.hid (HRD.out.alloc (cellRow k u (.slice A9 n d9)))
           have T3 := Lib.hid (below_new HB9.out (cellRow k u (.slice A9 n d9)))
           refine at_world 18 18 rfl rfl (fun gd _ Z => Hid (Z.heap[gd]? = some (cellRow k u (.slice A9 n d9))) ∧ Hid (RdP Z A9 n d9 L2) ∧ Hid (Below v7.heap.size v7 Z)) ⟨T1, T2, T3⟩ ?_
           rintro Z ⟨y1, y2, y3⟩
           go_wp2_with fail
           go_meet
           exact ⟨_, _, _, rfl, y1, y2, y3⟩)
        | (have T1 := Lib.hid (set5 (x := .int .i64 k) (y := .int .i64 u.k) (z := .int .i64 u.n) (u := .string u.s) (v := .slice A9 n d9) HZ9.out)
           have T2 := Lib.hid (rdp_set5 HRD.out HZ9.out (.int .i64 k) (.int .i64 u.k) (.int .i64 u.n) (.string u.s) (.slice A9 n d9))
           have z2 := bx.size
           have T3 := Lib.hid (below_set5h (x := .int .i64 k) (y := .int .i64 u.k) (z := .int .i64 u.n) (a := .string u.s) (b := .slice A9 n d9) HZ9.out HB9.out (by first | exact Nat.le_refl _ | exact bx.size | omega))
           clear q0 q1 q2 q3 q4 f0
           refine at_world 18 18 rfl rfl (fun gd _ Z => Hid (Z.heap[gd]? = some (cellRow k u (.slice A9 n d9))) ∧ Hid (RdP Z A9 n d9 L2) ∧ Hid (Below v7.heap.size v7 Z)) ⟨T1, T2, T3⟩ ?_
           rintro Z ⟨y1, y2, y3⟩
           go_wp2_with fail
           go_meet
           exact ⟨_, _, _, rfl, y1, y2, y3⟩)
  case rest =>
  obtain ⟨gR3, A3, d3, rfl, hR, hRd, hbb⟩ := hcut
  have R3 := hR; have RL3 := hRd; have bb := hbb.out
  clear hR hRd hbb
  replace RX := Lib.hid (row_below RX.out bb)
  replace RP := Lib.hid (row_below RP.out bb)
  replace RQ := Lib.hid (row_below RQ.out bb)
  replace RS := Lib.hid (row_below RS.out bb)
  replace R1 := Lib.hid (row_below R1.out bb)
  replace R2 := Lib.hid (row_below R2.out bb)
  replace RD := Lib.hid (RD.out.below bb)
  replace RL1 := Lib.hid (RL1.out.below bb)
  replace RL2 := Lib.hid (RL2.out.below bb)
  replace HB := Lib.hid (below_then HB.out bb)
  clear bb
  generalize wc = v8 at RX RP RQ RS R1 R2 RD RL1 RL2 R3 RL3 HB ⊢
  clear E3 E4
  go_upto_region 7 with fail
  go_cut [76] from 55 to 75 (fun z wz => z = .bool false ∧ Hid (Below v8.heap.size v8 wz))
  case first =>
    obtain ⟨RX0, RX1, RX2, RX3, RX4⟩ := cell_row5 RX.out
    obtain ⟨RP0, RP1⟩ := dot_rowT RP.out
    try dsimp only at RP0 RP1
    obtain ⟨R10, R11, R12, R13, R14⟩ := cell_row5 R1.out
    obtain ⟨R20, R21, R22, R23, R24⟩ := cell_row5 R2.out
    obtain ⟨R30, R31, R32, R33, R34⟩ := cell_row5 R3.out
    have hS0 : Below v8.heap.size v8 v8 ∧ v8.cell? ⟨g, 0, none⟩ = some (.int .i64 k) ∧ v8.cell? ⟨g, 1, none⟩ = some (.int .i64 u.k) ∧ v8.cell? ⟨g, 2, none⟩ = some (.int .i64 u.n) ∧ v8.cell? ⟨g, 3, none⟩ = some (.string u.s) ∧ v8.cell? ⟨g, 4, none⟩ = some (.slice A n c) ∧ v8.cell? ⟨g + 1, 0, none⟩ = some (.int .i64 dx) ∧ v8.cell? ⟨g + 1, 1, none⟩ = some (.int .i64 dy) ∧ v8.cell? ⟨gR1, 0, none⟩ = some (.int .i64 k) ∧ v8.cell? ⟨gR1, 1, none⟩ = some (.int .i64 u.k) ∧ v8.cell? ⟨gR1, 2, none⟩ = some (.int .i64 u.n) ∧ v8.cell? ⟨gR1, 3, none⟩ = some (.string u.s) ∧ v8.cell? ⟨gR1, 4, none⟩ = some (.slice A1 n d1) ∧ v8.cell? ⟨gR2, 0, none⟩ = some (.int .i64 k) ∧ v8.cell? ⟨gR2, 1, none⟩ = some (.int .i64 u.k) ∧ v8.cell? ⟨gR2, 2, none⟩ = some (.int .i64 u.n) ∧ v8.cell? ⟨gR2, 3, none⟩ = some (.string u.s) ∧ v8.cell? ⟨gR2, 4, none⟩ = some (.slice A2 n d2) ∧ v8.cell? ⟨gR3, 0, none⟩ = some (.int .i64 k) ∧ v8.cell? ⟨gR3, 1, none⟩ = some (.int .i64 u.k) ∧ v8.cell? ⟨gR3, 2, none⟩ = some (.int .i64 u.n) ∧ v8.cell? ⟨gR3, 3, none⟩ = some (.string u.s) ∧ v8.cell? ⟨gR3, 4, none⟩ = some (.slice A3 n d3) := ⟨Below.refl _ _, RX0, RX1, RX2, RX3, RX4, RP0, RP1, R10, R11, R12, R13, R14, R20, R21, R22, R23, R24, R30, R31, R32, R33, R34⟩
    have K : Hid (∀ W W' : World, (Below v8.heap.size v8 W ∧ W.cell? ⟨g, 0, none⟩ = some (.int .i64 k) ∧ W.cell? ⟨g, 1, none⟩ = some (.int .i64 u.k) ∧ W.cell? ⟨g, 2, none⟩ = some (.int .i64 u.n) ∧ W.cell? ⟨g, 3, none⟩ = some (.string u.s) ∧ W.cell? ⟨g, 4, none⟩ = some (.slice A n c) ∧ W.cell? ⟨g + 1, 0, none⟩ = some (.int .i64 dx) ∧ W.cell? ⟨g + 1, 1, none⟩ = some (.int .i64 dy) ∧ W.cell? ⟨gR1, 0, none⟩ = some (.int .i64 k) ∧ W.cell? ⟨gR1, 1, none⟩ = some (.int .i64 u.k) ∧ W.cell? ⟨gR1, 2, none⟩ = some (.int .i64 u.n) ∧ W.cell? ⟨gR1, 3, none⟩ = some (.string u.s) ∧ W.cell? ⟨gR1, 4, none⟩ = some (.slice A1 n d1) ∧ W.cell? ⟨gR2, 0, none⟩ = some (.int .i64 k) ∧ W.cell? ⟨gR2, 1, none⟩ = some (.int .i64 u.k) ∧ W.cell? ⟨gR2, 2, none⟩ = some (.int .i64 u.n) ∧ W.cell? ⟨gR2, 3, none⟩ = some (.string u.s) ∧ W.cell? ⟨gR2, 4, none⟩ = some (.slice A2 n d2) ∧ W.cell? ⟨gR3, 0, none⟩ = some (.int .i64 k) ∧ W.cell? ⟨gR3, 1, none⟩ = some (.int .i64 u.k) ∧ W.cell? ⟨gR3, 2, none⟩ = some (.int .i64 u.n) ∧ W.cell? ⟨gR3, 3, none⟩ = some (.string u.s) ∧ W.cell? ⟨gR3, 4, none⟩ = some (.slice A3 n d3)) → Below W.heap.size W W' → (Below v8.heap.size v8 W' ∧ W'.cell? ⟨g, 0, none⟩ = some (.int .i64 k) ∧ W'.cell? ⟨g, 1, none⟩ = some (.int .i64 u.k) ∧ W'.cell? ⟨g, 2, none⟩ = some (.int .i64 u.n) ∧ W'.cell? ⟨g, 3, none⟩ = some (.string u.s) ∧ W'.cell? ⟨g, 4, none⟩ = some (.slice A n c) ∧ W'.cell? ⟨g + 1, 0, none⟩ = some (.int .i64 dx) ∧ W'.cell? ⟨g + 1, 1, none⟩ = some (.int .i64 dy) ∧ W'.cell? ⟨gR1, 0, none⟩ = some (.int .i64 k) ∧ W'.cell? ⟨gR1, 1, none⟩ = some (.int .i64 u.k) ∧ W'.cell? ⟨gR1, 2, none⟩ = some (.int .i64 u.n) ∧ W'.cell? ⟨gR1, 3, none⟩ = some (.string u.s) ∧ W'.cell? ⟨gR1, 4, none⟩ = some (.slice A1 n d1) ∧ W'.cell? ⟨gR2, 0, none⟩ = some (.int .i64 k) ∧ W'.cell? ⟨gR2, 1, none⟩ = some (.int .i64 u.k) ∧ W'.cell? ⟨gR2, 2, none⟩ = some (.int .i64 u.n) ∧ W'.cell? ⟨gR2, 3, none⟩ = some (.string u.s) ∧ W'.cell? ⟨gR2, 4, none⟩ = some (.slice A2 n d2) ∧ W'.cell? ⟨gR3, 0, none⟩ = some (.int .i64 k) ∧ W'.cell? ⟨gR3, 1, none⟩ = some (.int .i64 u.k) ∧ W'.cell? ⟨gR3, 2, none⟩ = some (.int .i64 u.n) ∧ W'.cell? ⟨gR3, 3, none⟩ = some (.string u.s) ∧ W'.cell? ⟨gR3, 4, none⟩ = some (.slice A3 n d3))) := by
      rintro W W' ⟨kk, k0, k1, k2, k3, k4, k5, k6, k7, k8, k9, k10, k11, k12, k13, k14, k15, k16, k17, k18, k19, k20, k21⟩ hb
      have hc : ∀ (p : Addr) (y : Value), W.cell? p = some y → W'.cell? p = some y := fun p y h2 => (hb.cell (World.block_lt_of_cell? _ _ h2)).trans h2
      exact ⟨below_then kk hb, hc _ _ k0, hc _ _ k1, hc _ _ k2, hc _ _ k3, hc _ _ k4, hc _ _ k5, hc _ _ k6, hc _ _ k7, hc _ _ k8, hc _ _ k9, hc _ _ k10, hc _ _ k11, hc _ _ k12, hc _ _ k13, hc _ _ k14, hc _ _ k15, hc _ _ k16, hc _ _ k17, hc _ _ k18, hc _ _ k19, hc _ _ k20, hc _ _ k21⟩
    go_region_held3 (fun W => Below v8.heap.size v8 W ∧ W.cell? ⟨g, 0, none⟩ = some (.int .i64 k) ∧ W.cell? ⟨g, 1, none⟩ = some (.int .i64 u.k) ∧ W.cell? ⟨g, 2, none⟩ = some (.int .i64 u.n) ∧ W.cell? ⟨g, 3, none⟩ = some (.string u.s) ∧ W.cell? ⟨g, 4, none⟩ = some (.slice A n c) ∧ W.cell? ⟨g + 1, 0, none⟩ = some (.int .i64 dx) ∧ W.cell? ⟨g + 1, 1, none⟩ = some (.int .i64 dy) ∧ W.cell? ⟨gR1, 0, none⟩ = some (.int .i64 k) ∧ W.cell? ⟨gR1, 1, none⟩ = some (.int .i64 u.k) ∧ W.cell? ⟨gR1, 2, none⟩ = some (.int .i64 u.n) ∧ W.cell? ⟨gR1, 3, none⟩ = some (.string u.s) ∧ W.cell? ⟨gR1, 4, none⟩ = some (.slice A1 n d1) ∧ W.cell? ⟨gR2, 0, none⟩ = some (.int .i64 k) ∧ W.cell? ⟨gR2, 1, none⟩ = some (.int .i64 u.k) ∧ W.cell? ⟨gR2, 2, none⟩ = some (.int .i64 u.n) ∧ W.cell? ⟨gR2, 3, none⟩ = some (.string u.s) ∧ W.cell? ⟨gR2, 4, none⟩ = some (.slice A2 n d2) ∧ W.cell? ⟨gR3, 0, none⟩ = some (.int .i64 k) ∧ W.cell? ⟨gR3, 1, none⟩ = some (.int .i64 u.k) ∧ W.cell? ⟨gR3, 2, none⟩ = some (.int .i64 u.n) ∧ W.cell? ⟨gR3, 3, none⟩ = some (.string u.s) ∧ W.cell? ⟨gR3, 4, none⟩ = some (.slice A3 n d3))
      (first
        | exact K.out _ _ hS0 ((Below.refl _ _).drew)
        | exact K.out _ _ (by assumption) bb
        | exact K.out _ _ (by assumption) ((Below.refl _ _).alloc (Nat.le_refl _) _)
        | exact K.out _ _ hS0 (((Below.refl _ _).alloc (Nat.le_refl _) _).drew)
        | assumption)
      (first
        | (go_at_call 17
           with_reducible refine (SM.out n A2 d2 A3 d3 L2 _ ?_ ?_).mono ?_
           exact RL2.out.below (by first | exact Below.refl _ _ | exact (Below.refl _ _).drew | (go_split_ands; assumption))
           exact RL3.out.below (by first | exact Below.refl _ _ | exact (Below.refl _ _).drew | (go_split_ands; assumption))
           rintro e wx ⟨rfl, bb⟩)
        | (go_at_call 20
           with_reducible refine (E5.out A1 d1 _ ?_).mono ?_
           exact RL1.out.below (by first | exact Below.refl _ _ | exact (Below.refl _ _).drew | (go_split_ands; assumption))
           rintro e wx ⟨Ae, de, rfl, re, bb⟩
           have HE := Lib.hid re
           clear re)
        | (go_at_call 17
           with_reducible refine (SM.out n Ae de A1 d1 L1 _ ?_ ?_).mono ?_
           exact HE.out
           exact RL1.out.below (by first | exact Below.refl _ _ | exact (Below.refl _ _).drew | (go_split_ands; assumption))
           rintro e wx ⟨rfl, bb⟩))
    have hSz : Below v8.heap.size v8 wx ∧ wx.cell? ⟨g, 0, none⟩ = some (.int .i64 k) ∧ wx.cell? ⟨g, 1, none⟩ = some (.int .i64 u.k) ∧ wx.cell? ⟨g, 2, none⟩ = some (.int .i64 u.n) ∧ wx.cell? ⟨g, 3, none⟩ = some (.string u.s) ∧ wx.cell? ⟨g, 4, none⟩ = some (.slice A n c) ∧ wx.cell? ⟨g + 1, 0, none⟩ = some (.int .i64 dx) ∧ wx.cell? ⟨g + 1, 1, none⟩ = some (.int .i64 dy) ∧ wx.cell? ⟨gR1, 0, none⟩ = some (.int .i64 k) ∧ wx.cell? ⟨gR1, 1, none⟩ = some (.int .i64 u.k) ∧ wx.cell? ⟨gR1, 2, none⟩ = some (.int .i64 u.n) ∧ wx.cell? ⟨gR1, 3, none⟩ = some (.string u.s) ∧ wx.cell? ⟨gR1, 4, none⟩ = some (.slice A1 n d1) ∧ wx.cell? ⟨gR2, 0, none⟩ = some (.int .i64 k) ∧ wx.cell? ⟨gR2, 1, none⟩ = some (.int .i64 u.k) ∧ wx.cell? ⟨gR2, 2, none⟩ = some (.int .i64 u.n) ∧ wx.cell? ⟨gR2, 3, none⟩ = some (.string u.s) ∧ wx.cell? ⟨gR2, 4, none⟩ = some (.slice A2 n d2) ∧ wx.cell? ⟨gR3, 0, none⟩ = some (.int .i64 k) ∧ wx.cell? ⟨gR3, 1, none⟩ = some (.int .i64 u.k) ∧ wx.cell? ⟨gR3, 2, none⟩ = some (.int .i64 u.n) ∧ wx.cell? ⟨gR3, 3, none⟩ = some (.string u.s) ∧ wx.cell? ⟨gR3, 4, none⟩ = some (.slice A3 n d3) := by assumption
    have HZ := below_then HB.out hSz.1
    go_wp2_with fail
    go_meet
    exact ⟨rfl, Lib.hid hSz.1⟩
  case rest =>
  obtain ⟨rfl, hb⟩ := hcut
  have bb := hb.out
  clear hb
  replace RX := Lib.hid (row_below RX.out bb)
  replace RP := Lib.hid (row_below RP.out bb)
  replace RQ := Lib.hid (row_below RQ.out bb)
  replace RS := Lib.hid (row_below RS.out bb)
  replace R1 := Lib.hid (row_below R1.out bb)
  replace R2 := Lib.hid (row_below R2.out bb)
  replace R3 := Lib.hid (row_below R3.out bb)
  replace RD := Lib.hid (RD.out.below bb)
  replace RL1 := Lib.hid (RL1.out.below bb)
  replace RL2 := Lib.hid (RL2.out.below bb)
  replace RL3 := Lib.hid (RL3.out.below bb)
  replace HB := Lib.hid (below_then HB.out bb)
  clear bb E5
  generalize wc = v9 at RX RP RQ RS R1 R2 R3 RD RL1 RL2 RL3 HB ⊢
  go_wp2_with fail
  go_loopw [19] (fun z wr => ∃ m : Nat, m ≤ n ∧ z = .int .i64 m ∧ Hid (Below v9.heap.size v9 wr)) (fun z _ => n - (intOf z).toNat)
  case atStart => exact ⟨0, Nat.zero_le _, rfl, Below.refl _ _⟩
  case round =>
    obtain ⟨m, hm, rfl, HW⟩ := hrel
    by_cases hlt : m < n
    · obtain ⟨b, o, a, rfl, hb, ha, hld⟩ := RD.out.part hlt
      obtain ⟨b2, o2, a2, rfl, hb2, ha2, hld2⟩ := RL1.out.part hlt
      have he : a2 = erP ⟨⟨dx, dy⟩, i⟩ a := by
        rw [← hL1.out, eraseL, List.getElem?_map, ha] at ha2
        exact (Option.some.inj ha2).symm
      obtain ⟨c0, c1, c2, c3, c4, c5, c6, c7, c8, c9, c10⟩ := hld wr HW.out
      obtain ⟨_, _, _, _, _, _, _, _, _, _, e10⟩ := hld2 wr HW.out
      have RX := Lib.hid (row_below RX.out HW.out)
      have RP := Lib.hid (row_below RP.out HW.out)
      have R1 := Lib.hid (row_below R1.out HW.out)
      obtain ⟨RX0, RX1, RX2, RX3, RX4⟩ := cell_row5 RX.out
      obtain ⟨RP0, RP1⟩ := dot_rowT RP.out
      try dsimp only at RP0 RP1
      obtain ⟨R10, R11, R12, R13, R14⟩ := cell_row5 R1.out
      have z1 : (0 : Int) ≤ (m : Int) := by omega
      have z2 : (m : Int) < (n : Int) := by omega
      obtain ⟨q1, hq1⟩ : ∃ q1, Hid (decide ((⟨a.d.d, a.d.s⟩ : D2) = ⟨dx, dy⟩) = q1) := ⟨_, rfl⟩
      have EQ := fun W2 => run_equalIn_dot a.d.d a.d.s dx dy W2
      rw [hq1.out] at EQ
      obtain ⟨q2, hq2⟩ : ∃ q2, (a.i == i) = q2 := ⟨_, rfl⟩
      obtain ⟨ag, hag⟩ : ∃ ag, a.g = ag := ⟨_, rfl⟩
      have hyg : a2.g = (ag || (q1 && q2)) := by
        rw [he, erP_g, hag, ← hq1.out, ← hq2]
        congr 1
        rw [Bool.eq_iff_iff]
        simp only [decide_eq_true_iff, Bool.and_eq_true, beq_iff_eq, nm, N3.mk.injEq]
      rw [hag] at c10
      have HLD := Lib.hid hld; have HLD2 := Lib.hid hld2; have HAG := Lib.hid hag; have HYG := Lib.hid hyg
      clear hld hld2 ha ha2 hb hb2 he hq1 hyg hag e10 RX0 RX1 RX2 RX3 R10 R11 R12 R13 R14 SM RT hMay hr
      cases ag <;> cases q1 <;> cases q2
      all_goals
        go_wp2_with fail
        go_quiet (fail)
        have HW2 := Lib.hid (below_drewN HW.out nq)
        have bz : Hid (Below wr.heap.size wr (wr.drewN nq)) := below_drewN (Below.refl _ _) nq
        generalize wr.drewN nq = w9 at HW2 bz ⊢
        clear c0 c1 c2 c3 c4 c5 c6 c7 c8 c9 c10 RX4 RP0 RP1 EQ
        obtain ⟨_, _, _, _, _, _, _, _, _, _, c10⟩ := HLD.out w9 HW2.out
        obtain ⟨_, _, _, _, _, _, _, _, _, _, e10⟩ := HLD2.out w9 HW2.out
        rw [HAG.out] at c10
        rw [HYG.out] at e10
        (try simp only [Bool.and_true, Bool.and_false, Bool.or_true, Bool.or_false, Bool.and_self, Bool.or_self] at e10)
        obtain ⟨_, _, _, _, RX4⟩ := cell_row5 (row_below RX.out bz.out)
        obtain ⟨_, _, _, _, R14⟩ := cell_row5 (row_below R1.out bz.out)
        go_wp2_with fail
        go_quiet (fail)
        have HW3 := Lib.hid (below_drewN HW2.out nq)
        generalize w9.drewN nq = w10 at HW3 ⊢
        clear c10 e10 RX4 R14
        go_wp2_with fail
        exact ⟨⟨m + 1, by omega, by go_num, HW3⟩, by simp [intOf]; omega⟩
    · have z2 : ¬ (m : Int) < (n : Int) := by omega
      have bb := HW.out
      replace RX := Lib.hid (row_below RX.out bb)
      replace RP := Lib.hid (row_below RP.out bb)
      replace RQ := Lib.hid (row_below RQ.out bb)
      replace RS := Lib.hid (row_below RS.out bb)
      replace R1 := Lib.hid (row_below R1.out bb)
      replace R2 := Lib.hid (row_below R2.out bb)
      replace R3 := Lib.hid (row_below R3.out bb)
      replace RD := Lib.hid (RD.out.below bb)
      replace RL1 := Lib.hid (RL1.out.below bb)
      replace RL2 := Lib.hid (RL2.out.below bb)
      replace RL3 := Lib.hid (RL3.out.below bb)
      replace HB := Lib.hid (below_then HB.out bb)
      clear bb HW hlt hm
      obtain ⟨RX0, RX1, RX2, RX3, RX4⟩ := cell_row5 RX.out
      by_cases hE : mayT k u l s.size ⟨st, sd, sq⟩ ⟨⟨dx, dy⟩, i⟩ = 0
      rotate_left
      · obtain ⟨er, her⟩ : ∃ er, Hid (mayT k u l s.size ⟨st, sd, sq⟩ ⟨⟨dx, dy⟩, i⟩ = er) := ⟨_, rfl⟩
        have T1 : Hid (∀ W : World, RdP W A n c l → Calls Try.prog 22 #[cellV k u (.slice A n c), .string s, .agg #[.int .i64 st, .int .i64 sd, .int .i64 sq], .agg #[.int .i64 dx, .int .i64 dy], .int .i64 i] W fun e w' => e = .returned (.tuple #[cellV 0 zeroT nilS, .int .i64 er]) ∧ Below W.heap.size W w') := by
          intro W hW
          refine (typeT_any k u A n c l s ⟨st, sd, sq⟩ ⟨dx, dy⟩ i W hW hn6 (by omega)).mono ?_
          rintro e w' ⟨hb, ⟨_, h2⟩ | ⟨h1, _⟩⟩
          · rw [show typeE k u l s ⟨st, sd, sq⟩ ⟨⟨dx, dy⟩, i⟩ = er from her.out] at h2
            exact ⟨h2, hb⟩
          · exact absurd h1 hE
        have T2 : Hid (∀ W : World, RdP W A1 n d1 L1 → Calls Try.prog 22 #[cellV k u (.slice A1 n d1), .string s, .agg #[.int .i64 st, .int .i64 sd, .int .i64 sq], .agg #[.int .i64 dx, .int .i64 dy], .int .i64 i] W fun e w' => e = .returned (.tuple #[cellV 0 zeroT nilS, .int .i64 er]) ∧ Below W.heap.size W w') := by
          intro W hW
          refine (typeT_any k u A1 n d1 L1 s ⟨st, sd, sq⟩ ⟨dx, dy⟩ i W hW hn6 (by omega)).mono ?_
          rintro e w' ⟨hb, ⟨_, h2⟩ | ⟨h1, _⟩⟩
          · rw [show typeE k u L1 s ⟨st, sd, sq⟩ ⟨⟨dx, dy⟩, i⟩ = er from hMay.out.trans her.out] at h2
            exact ⟨h2, hb⟩
          · exact absurd (hMay.out.symm.trans h1) hE
        have er0 : (er == 0) = false := by
          rw [her.out] at hE; simpa using hE
        have er1 : (er != 0) = true := by
          rw [her.out] at hE; simpa using hE
        have er2 : (er == er) = true := by simp
        clear hE her hMay RX0 RX1 RX2 RX3 RX4
        obtain ⟨RX0, RX1, RX2, RX3, RX4⟩ := cell_row5 RX.out
        obtain ⟨RS0, RS1, RS2⟩ := stamp_at RS.out
        obtain ⟨RP0, RP1⟩ := dot_rowT RP.out
        try dsimp only at RP0 RP1
        go_wp2_with fail
        refine (T1.out _ RD.out).mono ?_
        rintro e v10 ⟨rfl, bb⟩
        replace RX := Lib.hid (row_below RX.out bb)
        replace RP := Lib.hid (row_below RP.out bb)
        replace RQ := Lib.hid (row_below RQ.out bb)
        replace RS := Lib.hid (row_below RS.out bb)
        replace R1 := Lib.hid (row_below R1.out bb)
        replace R2 := Lib.hid (row_below R2.out bb)
        replace R3 := Lib.hid (row_below R3.out bb)
        replace RD := Lib.hid (RD.out.below bb)
        replace RL1 := Lib.hid (RL1.out.below bb)
        replace RL2 := Lib.hid (RL2.out.below bb)
        replace RL3 := Lib.hid (RL3.out.below bb)
        replace HB := Lib.hid (below_then HB.out bb)
        clear bb
        clear RX0 RX1 RX2 RX3 RX4 RS0 RS1 RS2 RP0 RP1
        obtain ⟨v11, hw⟩ : ∃ w', w' = v10.alloc (cellRow 0 zeroT nilS) := ⟨_, rfl⟩
        have R5 : Hid (v11.heap[v10.heap.size]? = some (cellRow 0 zeroT nilS)) := by rw [hw]; exact heap_alloc_new _ _
        have bb : Below v10.heap.size v10 v11 := by rw [hw]; exact below_new (Below.refl _ _) _
        replace hw := Lib.hid hw
        replace RX := Lib.hid (row_below RX.out bb)
        replace RP := Lib.hid (row_below RP.out bb)
        replace RQ := Lib.hid (row_below RQ.out bb)
        replace RS := Lib.hid (row_below RS.out bb)
        replace R1 := Lib.hid (row_below R1.out bb)
        replace R2 := Lib.hid (row_below R2.out bb)
        replace R3 := Lib.hid (row_below R3.out bb)
        replace RD := Lib.hid (RD.out.below bb)
        replace RL1 := Lib.hid (RL1.out.below bb)
        replace RL2 := Lib.hid (RL2.out.below bb)
        replace RL3 := Lib.hid (RL3.out.below bb)
        replace HB := Lib.hid (below_then HB.out bb)
        clear bb
        go_upto_region 16 with fail
        rw [show v10.alloc (cellRow 0 zeroT nilS) = v11 from hw.out.symm]
        clear hw
        generalize v10.heap.size = gR5 at R5 ⊢
        obtain ⟨R10, R11, R12, R13, R14⟩ := cell_row5 R1.out
        obtain ⟨RS0, RS1, RS2⟩ := stamp_at RS.out
        obtain ⟨RP0, RP1⟩ := dot_rowT RP.out
        try dsimp only at RP0 RP1
        go_wp2_with fail
        refine (T2.out _ RL1.out).mono ?_
        rintro e v12 ⟨rfl, bb⟩
        replace RX := Lib.hid (row_below RX.out bb)
        replace RP := Lib.hid (row_below RP.out bb)
        replace RQ := Lib.hid (row_below RQ.out bb)
        replace RS := Lib.hid (row_below RS.out bb)
        replace R1 := Lib.hid (row_below R1.out bb)
        replace R2 := Lib.hid (row_below R2.out bb)
        replace R3 := Lib.hid (row_below R3.out bb)
        replace R5 := Lib.hid (row_below R5.out bb)
        replace RD := Lib.hid (RD.out.below bb)
        replace RL1 := Lib.hid (RL1.out.below bb)
        replace RL2 := Lib.hid (RL2.out.below bb)
        replace RL3 := Lib.hid (RL3.out.below bb)
        replace HB := Lib.hid (below_then HB.out bb)
        clear bb
        clear R10 R11 R12 R13 R14 RS0 RS1 RS2 RP0 RP1
        obtain ⟨v13, hw⟩ : ∃ w', w' = v12.alloc (cellRow 0 zeroT nilS) := ⟨_, rfl⟩
        have R6 : Hid (v13.heap[v12.heap.size]? = some (cellRow 0 zeroT nilS)) := by rw [hw]; exact heap_alloc_new _ _
        have bb : Below v12.heap.size v12 v13 := by rw [hw]; exact below_new (Below.refl _ _) _
        replace hw := Lib.hid hw
        replace RX := Lib.hid (row_below RX.out bb)
        replace RP := Lib.hid (row_below RP.out bb)
        replace RQ := Lib.hid (row_below RQ.out bb)
        replace RS := Lib.hid (row_below RS.out bb)
        replace R1 := Lib.hid (row_below R1.out bb)
        replace R2 := Lib.hid (row_below R2.out bb)
        replace R3 := Lib.hid (row_below R3.out bb)
        replace R5 := Lib.hid (row_below R5.out bb)
        replace RD := Lib.hid (RD.out.below bb)
        replace RL1 := Lib.hid (RL1.out.below bb)
        replace RL2 := Lib.hid (RL2.out.below bb)
        replace RL3 := Lib.hid (RL3.out.below bb)
        replace HB := Lib.hid (below_then HB.out bb)
        clear bb
        go_upto_region 17 with fail
        rw [show v12.alloc (cellRow 0 zeroT nilS) = v13 from hw.out.symm]
        clear hw
        generalize v12.heap.size = gR6 at R6 ⊢
        clear T1 T2 SM
        obtain ⟨R20, R21, R22, R23, R24⟩ := cell_row5 R2.out
        have KA : Hid (∀ W, Below v13.heap.size v13 W → (Below v13.heap.size v13 W ∧ W.cell? ⟨gR2, 0, none⟩ = some (.int .i64 k) ∧ W.cell? ⟨gR2, 1, none⟩ = some (.int .i64 u.k) ∧ W.cell? ⟨gR2, 2, none⟩ = some (.int .i64 u.n) ∧ W.cell? ⟨gR2, 3, none⟩ = some (.string u.s) ∧ W.cell? ⟨gR2, 4, none⟩ = some (.slice A2 n d2))) := by
          intro W hb
          have hc : ∀ (p : Addr) (y : Value), v13.cell? p = some y → W.cell? p = some y := fun p y h2 => (hb.cell (World.block_lt_of_cell? _ _ h2)).trans h2
          exact ⟨hb, hc _ _ R20, hc _ _ R21, hc _ _ R22, hc _ _ R23, hc _ _ R24⟩
        clear R20 R21 R22 R23 R24
        go_upto_region 17 with fail
        refine wp_region_noPanic ?_
        refine wp_region_held_drew (S := (fun W => Below v13.heap.size v13 W ∧ W.cell? ⟨gR2, 0, none⟩ = some (.int .i64 k) ∧ W.cell? ⟨gR2, 1, none⟩ = some (.int .i64 u.k) ∧ W.cell? ⟨gR2, 2, none⟩ = some (.int .i64 u.n) ∧ W.cell? ⟨gR2, 3, none⟩ = some (.string u.s) ∧ W.cell? ⟨gR2, 4, none⟩ = some (.slice A2 n d2))) (by kernel_rfl) ?_ (fun hHeld => ?_)
        · exact KA.out _ ((Below.refl _ _).drew)
        refine wpAnyH_one (by kernel_rfl) (fun _ _ _ _ _ h => h) (by assumption) 0 23 (some 136) ?_ _ (by rfl) (by rfl) (by kernel_rfl) (by rfl) ?_ ?_
        rotate_left 1
        · intro W hSw
          (try dsimp only at hSw)
          go_simp
          (try with_reducible rfl)
        (try simp only [Act.put, List.setIfInBounds_toArray, List.set_cons_zero, List.set_cons_succ])
        refine wpAnyH_one (by kernel_rfl) (fun _ _ _ _ _ h => h) (by assumption) 1 22 (some 137) ?_ _ (by rfl) (by rfl) (by kernel_rfl) (by rfl) ?_ ?_
        rotate_left 1
        · intro W hSw
          (try dsimp only at hSw)
          go_simp
          (try with_reducible rfl)
        (try simp only [Act.put, List.setIfInBounds_toArray, List.set_cons_zero, List.set_cons_succ])
        refine wpAnyH_one (by kernel_rfl) (fun _ _ _ _ _ h => h) (by assumption) 2 21 (some 138) ?_ _ (by rfl) (by rfl) (by kernel_rfl) (by rfl) ?_ ?_
        rotate_left 1
        · intro W hSw
          (try dsimp only at hSw)
          go_simp
          (try with_reducible rfl)
        (try simp only [Act.put, List.setIfInBounds_toArray, List.set_cons_zero, List.set_cons_succ])
        refine wpAnyH_ready (rs := [3]) (by kernel_rfl) (by simp) (AllReadyH.cons rfl (fun K hK => ?_) AllReadyH.nil)
        go_simp
        refine (RT.out _ _ _ (RL2.out.below hHeld.1)).mono ?_
        rintro e wx ⟨rfl, bb⟩
        (try go_wp2_with fail)
        refine hK.out _ _ ?_ (fun hHeld => ?_)
        · (try dsimp only)
          exact KA.out _ (below_then hHeld.1 bb)
        clear hK K
        (try simp only [Act.put, List.setIfInBounds_toArray, List.set_cons_zero, List.set_cons_succ])
        refine wpAnyH_one (by kernel_rfl) (fun _ _ _ _ _ h => h) (by assumption) 4 19 (some 140) ?_ _ (by rfl) (by rfl) (by kernel_rfl) (by rfl) ?_ ?_
        rotate_left 1
        · intro W hSw
          (try dsimp only at hSw)
          go_simp
          (try with_reducible rfl)
        (try simp only [Act.put, List.setIfInBounds_toArray, List.set_cons_zero, List.set_cons_succ])
        refine wpAnyH_one (by kernel_rfl) (fun _ _ _ _ _ h => h) (by assumption) 5 18 (some 141) ?_ _ (by rfl) (by rfl) (by kernel_rfl) (by rfl) ?_ ?_
        rotate_left 1
        · intro W hSw
          (try dsimp only at hSw)
          go_simp
          (try with_reducible rfl)
        (try simp only [Act.put, List.setIfInBounds_toArray, List.set_cons_zero, List.set_cons_succ])
        refine wpAnyH_one (by kernel_rfl) (fun _ _ _ _ _ h => h) (by assumption) 6 17 (some 142) ?_ _ (by rfl) (by rfl) (by kernel_rfl) (by rfl) ?_ ?_
        rotate_left 1
        · intro W hSw
          (try dsimp only at hSw)
          go_simp
          (try with_reducible rfl)
        (try simp only [Act.put, List.setIfInBounds_toArray, List.set_cons_zero, List.set_cons_succ])
        refine wpAnyH_one (by kernel_rfl) (fun _ _ _ _ _ h => h) (by assumption) 7 16 (some 143) ?_ _ (by rfl) (by rfl) (by kernel_rfl) (by rfl) ?_ ?_
        rotate_left 1
        · intro W hSw
          (try dsimp only at hSw)
          go_simp
          (try with_reducible rfl)
        (try simp only [Act.put, List.setIfInBounds_toArray, List.set_cons_zero, List.set_cons_succ])
        refine wpAnyH_one (by kernel_rfl) (fun _ _ _ _ _ h => h) (by assumption) 8 15 (some 144) ?_ _ (by rfl) (by rfl) (by kernel_rfl) (by rfl) ?_ ?_
        rotate_left 1
        · intro W hSw
          (try dsimp only at hSw)
          go_simp
          (try with_reducible rfl)
        (try simp only [Act.put, List.setIfInBounds_toArray, List.set_cons_zero, List.set_cons_succ])
        refine wpAnyH_one (by kernel_rfl) (fun _ _ _ _ _ h => h) (by assumption) 9 14 (some 145) ?_ _ (by rfl) (by rfl) (by kernel_rfl) (by rfl) ?_ ?_
        rotate_left 1
        · intro W hSw
          (try dsimp only at hSw)
          go_simp
          (try with_reducible rfl)
        (try simp only [Act.put, List.setIfInBounds_toArray, List.set_cons_zero, List.set_cons_succ])
        refine wpAnyH_one (by kernel_rfl) (fun _ _ _ _ _ h => h) (by assumption) 10 13 (some 146) ?_ _ (by rfl) (by rfl) (by kernel_rfl) (by rfl) ?_ ?_
        rotate_left 1
        · intro W hSw
          (try dsimp only at hSw)
          go_simp
          (try with_reducible rfl)
        (try simp only [Act.put, List.setIfInBounds_toArray, List.set_cons_zero, List.set_cons_succ])
        refine wpAnyH_one (by kernel_rfl) (fun _ _ _ _ _ h => h) (by assumption) 11 12 (some 147) ?_ _ (by rfl) (by rfl) (by kernel_rfl) (by rfl) ?_ ?_
        rotate_left 1
        · intro W hSw
          (try dsimp only at hSw)
          go_simp
          (try with_reducible rfl)
        (try simp only [Act.put, List.setIfInBounds_toArray, List.set_cons_zero, List.set_cons_succ])
        refine wpAnyH_one (by kernel_rfl) (fun _ _ _ _ _ h => h) (by assumption) 12 11 (some 148) ?_ _ (by rfl) (by rfl) (by kernel_rfl) (by rfl) ?_ ?_
        rotate_left 1
        · intro W hSw
          (try dsimp only at hSw)
          go_simp
          (try with_reducible rfl)
        (try simp only [Act.put, List.setIfInBounds_toArray, List.set_cons_zero, List.set_cons_succ])
        refine wpAnyH_one (by kernel_rfl) (fun _ _ _ _ _ h => h) (by assumption) 13 10 (some 149) ?_ _ (by rfl) (by rfl) (by kernel_rfl) (by rfl) ?_ ?_
        rotate_left 1
        · intro W hSw
          (try dsimp only at hSw)
          go_simp
          (try with_reducible rfl)
        (try simp only [Act.put, List.setIfInBounds_toArray, List.set_cons_zero, List.set_cons_succ])
        refine wpAnyH_one (by kernel_rfl) (fun _ _ _ _ _ h => h) (by assumption) 14 9 (some 150) ?_ _ (by rfl) (by rfl) (by kernel_rfl) (by rfl) ?_ ?_
        rotate_left 1
        · intro W hSw
          (try dsimp only at hSw)
          go_simp
          (try with_reducible rfl)
        (try simp only [Act.put, List.setIfInBounds_toArray, List.set_cons_zero, List.set_cons_succ])
        refine wpAnyH_puts (by kernel_rfl) (fun _ _ _ _ _ h => h) (by assumption) [15, 16, 17, 18, 19, 20] 3 [(some 151, undef), (some 152, undef), (some 153, undef), (some 154, undef), (some 155, undef), (some 156, undef)] (by kernel_rfl) (by kernel_rfl) ?_
        (try simp only [putsOf, Act.put, List.setIfInBounds_toArray, List.set_cons_zero, List.set_cons_succ])
        refine wpAnyH_one (by kernel_rfl) (fun _ _ _ _ _ h => h) (by assumption) 21 2 (some 157) ?_ _ (by rfl) (by rfl) (by kernel_rfl) (by rfl) ?_ ?_
        rotate_left 1
        · intro W hSw
          (try dsimp only at hSw)
          go_simp
          (try with_reducible rfl)
        (try simp only [Act.put, List.setIfInBounds_toArray, List.set_cons_zero, List.set_cons_succ])
        refine wpAnyH_one (by kernel_rfl) (fun _ _ _ _ _ h => h) (by assumption) 22 1 (some 158) ?_ _ (by rfl) (by rfl) (by kernel_rfl) (by rfl) ?_ ?_
        rotate_left 1
        · intro W hSw
          (try dsimp only at hSw)
          go_simp
          (try with_reducible rfl)
        (try simp only [Act.put, List.setIfInBounds_toArray, List.set_cons_zero, List.set_cons_succ])
        refine wpAnyH_one (by kernel_rfl) (fun _ _ _ _ _ h => h) (by assumption) 23 0 (some 14) ?_ _ (by rfl) (by rfl) (by kernel_rfl) (by rfl) ?_ ?_
        rotate_left 1
        · intro W hSw
          (try dsimp only at hSw)
          go_simp
          (try with_reducible rfl)
        (try simp only [Act.put, List.setIfInBounds_toArray, List.set_cons_zero, List.set_cons_succ])
        refine wpAnyH_done (by kernel_rfl) ?_ _
        refine NoPanic.normal ?_
        (try simp only [Act.put, List.setIfInBounds_toArray, List.set_cons_zero, List.set_cons_succ])
        have HZ := Lib.hid (below_then HB.out hHeld.1)
        go_wp2_with fail
        go_ret
        exact ⟨rfl, HZ.out⟩
      · obtain ⟨M, hM⟩ : ∃ M, Hid (n + s.size = M) := ⟨_, rfl⟩
        obtain ⟨TL, hTL⟩ : ∃ L, Hid (typeL l s ⟨st, sd, sq⟩ ⟨⟨dx, dy⟩, i⟩ = L) := ⟨_, rfl⟩
        obtain ⟨TL2, hTL2⟩ : ∃ L, Hid (typeL L1 s ⟨st, sd, sq⟩ ⟨⟨dx, dy⟩, i⟩ = L) := ⟨_, rfl⟩
        have T1 : Hid (∀ W : World, RdP W A n c l → Calls Try.prog 22 #[cellV k u (.slice A n c), .string s, .agg #[.int .i64 st, .int .i64 sd, .int .i64 sq], .agg #[.int .i64 dx, .int .i64 dy], .int .i64 i] W fun e w' => ∃ A' c', e = .returned (.tuple #[cellV k u (.slice A' M c'), .int .i64 0]) ∧ RdP w' A' M c' TL ∧ Below W.heap.size W w') := by
          intro W hW
          refine (typeT_any k u A n c l s ⟨st, sd, sq⟩ ⟨dx, dy⟩ i W hW hn6 (by omega)).mono ?_
          rintro e w' ⟨hb, ⟨h1, _⟩ | ⟨_, A', c', h2, h3, _⟩⟩
          · exact absurd hE h1
          · rw [hTL.out, hM.out] at h3
            rw [hM.out] at h2
            exact ⟨A', c', h2, h3, hb⟩
        have T2 : Hid (∀ W : World, RdP W A1 n d1 L1 → Calls Try.prog 22 #[cellV k u (.slice A1 n d1), .string s, .agg #[.int .i64 st, .int .i64 sd, .int .i64 sq], .agg #[.int .i64 dx, .int .i64 dy], .int .i64 i] W fun e w' => ∃ A' c', e = .returned (.tuple #[cellV k u (.slice A' M c'), .int .i64 0]) ∧ RdP w' A' M c' TL2 ∧ Below W.heap.size W w') := by
          intro W hW
          refine (typeT_any k u A1 n d1 L1 s ⟨st, sd, sq⟩ ⟨dx, dy⟩ i W hW hn6 (by omega)).mono ?_
          rintro e w' ⟨hb, ⟨h1, _⟩ | ⟨_, A', c', h2, h3, _⟩⟩
          · exact absurd (hMay.out.trans hE) h1
          · rw [hTL2.out, hM.out] at h3
            rw [hM.out] at h2
            exact ⟨A', c', h2, h3, hb⟩
        have E6 : Hid (∀ (A1 : Option Addr) (d1 : Nat) (W : World), RdP W A1 M d1 TL → Calls Try.prog 20 #[cellV k u (.slice A1 M d1), .agg #[.int .i64 dx, .int .i64 dy], .int .i64 i] W fun e w' => ∃ A' c', e = .returned (cellV k u (.slice A' M c')) ∧ RdP w' A' M c' TL2 ∧ Below W.heap.size W w') := by
          intro A1 d1 W hW
          refine (eraseT_any k u A1 M d1 TL ⟨dx, dy⟩ i W hW (by have := hM.out; omega)).mono ?_
          rintro e w' ⟨A', c', h1, h2, h3, _⟩
          rw [show eraseL TL ⟨⟨dx, dy⟩, i⟩ = TL2 from by rw [← hTL.out, ← hTL2.out, ← hL1.out]; exact er_type hE] at h2
          exact ⟨A', c', h1, h2, h3⟩
        clear hE hMay hTL hTL2 hM RX0 RX1 RX2 RX3 RX4
        obtain ⟨RX0, RX1, RX2, RX3, RX4⟩ := cell_row5 RX.out
        obtain ⟨RS0, RS1, RS2⟩ := stamp_at RS.out
        obtain ⟨RP0, RP1⟩ := dot_rowT RP.out
        try dsimp only at RP0 RP1
        go_wp2_with fail
        refine (T1.out _ RD.out).mono ?_
        rintro e v10 ⟨A5, d5, rfl, r5, bb⟩
        replace RX := Lib.hid (row_below RX.out bb)
        replace RP := Lib.hid (row_below RP.out bb)
        replace RQ := Lib.hid (row_below RQ.out bb)
        replace RS := Lib.hid (row_below RS.out bb)
        replace R1 := Lib.hid (row_below R1.out bb)
        replace R2 := Lib.hid (row_below R2.out bb)
        replace R3 := Lib.hid (row_below R3.out bb)
        replace RD := Lib.hid (RD.out.below bb)
        replace RL1 := Lib.hid (RL1.out.below bb)
        replace RL2 := Lib.hid (RL2.out.below bb)
        replace RL3 := Lib.hid (RL3.out.below bb)
        replace HB := Lib.hid (below_then HB.out bb)
        clear bb
        have RL5 := Lib.hid r5
        clear r5
        clear RX0 RX1 RX2 RX3 RX4 RS0 RS1 RS2 RP0 RP1
        obtain ⟨v11, hw⟩ : ∃ w', w' = v10.alloc (cellRow k u (.slice A5 M d5)) := ⟨_, rfl⟩
        have R5 : Hid (v11.heap[v10.heap.size]? = some (cellRow k u (.slice A5 M d5))) := by rw [hw]; exact heap_alloc_new _ _
        have bb : Below v10.heap.size v10 v11 := by rw [hw]; exact below_new (Below.refl _ _) _
        replace hw := Lib.hid hw
        replace RX := Lib.hid (row_below RX.out bb)
        replace RP := Lib.hid (row_below RP.out bb)
        replace RQ := Lib.hid (row_below RQ.out bb)
        replace RS := Lib.hid (row_below RS.out bb)
        replace R1 := Lib.hid (row_below R1.out bb)
        replace R2 := Lib.hid (row_below R2.out bb)
        replace R3 := Lib.hid (row_below R3.out bb)
        replace RD := Lib.hid (RD.out.below bb)
        replace RL1 := Lib.hid (RL1.out.below bb)
        replace RL2 := Lib.hid (RL2.out.below bb)
        replace RL3 := Lib.hid (RL3.out.below bb)
        replace RL5 := Lib.hid (RL5.out.below bb)
        replace HB := Lib.hid (below_then HB.out bb)
        clear bb
        go_upto_region 16 with fail
        rw [show v10.alloc (Obj.cells #[Value.int .i64 k, .int .i64 u.k, .int .i64 u.n, .string u.s, .slice A5 M d5] 26) = v11 from hw.out.symm]
        clear hw
        generalize v10.heap.size = gR5 at R5 ⊢
        obtain ⟨R10, R11, R12, R13, R14⟩ := cell_row5 R1.out
        obtain ⟨RS0, RS1, RS2⟩ := stamp_at RS.out
        obtain ⟨RP0, RP1⟩ := dot_rowT RP.out
        try dsimp only at RP0 RP1
        go_wp2_with fail
        refine (T2.out _ RL1.out).mono ?_
        rintro e v12 ⟨A6, d6, rfl, r6, bb⟩
        replace RX := Lib.hid (row_below RX.out bb)
        replace RP := Lib.hid (row_below RP.out bb)
        replace RQ := Lib.hid (row_below RQ.out bb)
        replace RS := Lib.hid (row_below RS.out bb)
        replace R1 := Lib.hid (row_below R1.out bb)
        replace R2 := Lib.hid (row_below R2.out bb)
        replace R3 := Lib.hid (row_below R3.out bb)
        replace R5 := Lib.hid (row_below R5.out bb)
        replace RD := Lib.hid (RD.out.below bb)
        replace RL1 := Lib.hid (RL1.out.below bb)
        replace RL2 := Lib.hid (RL2.out.below bb)
        replace RL3 := Lib.hid (RL3.out.below bb)
        replace RL5 := Lib.hid (RL5.out.below bb)
        replace HB := Lib.hid (below_then HB.out bb)
        clear bb
        have RL6 := Lib.hid r6
        clear r6
        clear R10 R11 R12 R13 R14 RS0 RS1 RS2 RP0 RP1
        obtain ⟨v13, hw⟩ : ∃ w', w' = v12.alloc (cellRow k u (.slice A6 M d6)) := ⟨_, rfl⟩
        have R6 : Hid (v13.heap[v12.heap.size]? = some (cellRow k u (.slice A6 M d6))) := by rw [hw]; exact heap_alloc_new _ _
        have bb : Below v12.heap.size v12 v13 := by rw [hw]; exact below_new (Below.refl _ _) _
        replace hw := Lib.hid hw
        replace RX := Lib.hid (row_below RX.out bb)
        replace RP := Lib.hid (row_below RP.out bb)
        replace RQ := Lib.hid (row_below RQ.out bb)
        replace RS := Lib.hid (row_below RS.out bb)
        replace R1 := Lib.hid (row_below R1.out bb)
        replace R2 := Lib.hid (row_below R2.out bb)
        replace R3 := Lib.hid (row_below R3.out bb)
        replace R5 := Lib.hid (row_below R5.out bb)
        replace RD := Lib.hid (RD.out.below bb)
        replace RL1 := Lib.hid (RL1.out.below bb)
        replace RL2 := Lib.hid (RL2.out.below bb)
        replace RL3 := Lib.hid (RL3.out.below bb)
        replace RL5 := Lib.hid (RL5.out.below bb)
        replace RL6 := Lib.hid (RL6.out.below bb)
        replace HB := Lib.hid (below_then HB.out bb)
        clear bb
        go_upto_region 17 with fail
        rw [show v12.alloc (Obj.cells #[Value.int .i64 k, .int .i64 u.k, .int .i64 u.n, .string u.s, .slice A6 M d6] 26) = v13 from hw.out.symm]
        clear hw
        generalize v12.heap.size = gR6 at R6 ⊢
        clear T1 T2
        obtain ⟨R20, R21, R22, R23, R24⟩ := cell_row5 R2.out
        obtain ⟨RP0, RP1⟩ := dot_rowT RP.out
        try dsimp only at RP0 RP1
        obtain ⟨R50, R51, R52, R53, R54⟩ := cell_row5 R5.out
        obtain ⟨R60, R61, R62, R63, R64⟩ := cell_row5 R6.out
        have KA : Hid (∀ W, Below v13.heap.size v13 W → (Below v13.heap.size v13 W ∧ W.cell? ⟨gR2, 0, none⟩ = some (.int .i64 k) ∧ W.cell? ⟨gR2, 1, none⟩ = some (.int .i64 u.k) ∧ W.cell? ⟨gR2, 2, none⟩ = some (.int .i64 u.n) ∧ W.cell? ⟨gR2, 3, none⟩ = some (.string u.s) ∧ W.cell? ⟨gR2, 4, none⟩ = some (.slice A2 n d2) ∧ W.cell? ⟨g + 1, 0, none⟩ = some (.int .i64 dx) ∧ W.cell? ⟨g + 1, 1, none⟩ = some (.int .i64 dy) ∧ W.cell? ⟨gR5, 0, none⟩ = some (.int .i64 k) ∧ W.cell? ⟨gR5, 1, none⟩ = some (.int .i64 u.k) ∧ W.cell? ⟨gR5, 2, none⟩ = some (.int .i64 u.n) ∧ W.cell? ⟨gR5, 3, none⟩ = some (.string u.s) ∧ W.cell? ⟨gR5, 4, none⟩ = some (.slice A5 M d5) ∧ W.cell? ⟨gR6, 0, none⟩ = some (.int .i64 k) ∧ W.cell? ⟨gR6, 1, none⟩ = some (.int .i64 u.k) ∧ W.cell? ⟨gR6, 2, none⟩ = some (.int .i64 u.n) ∧ W.cell? ⟨gR6, 3, none⟩ = some (.string u.s) ∧ W.cell? ⟨gR6, 4, none⟩ = some (.slice A6 M d6))) := by
          intro W hb
          have hc : ∀ (p : Addr) (y : Value), v13.cell? p = some y → W.cell? p = some y := fun p y h2 => (hb.cell (World.block_lt_of_cell? _ _ h2)).trans h2
          exact ⟨hb, hc _ _ R20, hc _ _ R21, hc _ _ R22, hc _ _ R23, hc _ _ R24, hc _ _ RP0, hc _ _ RP1, hc _ _ R50, hc _ _ R51, hc _ _ R52, hc _ _ R53, hc _ _ R54, hc _ _ R60, hc _ _ R61, hc _ _ R62, hc _ _ R63, hc _ _ R64⟩
        clear R20 R21 R22 R23 R24 RP0 RP1 R50 R51 R52 R53 R54 R60 R61 R62 R63 R64
        go_upto_region 17 with fail
        refine wp_region_noPanic ?_
        refine wp_region_held_drew (S := (fun W => Below v13.heap.size v13 W ∧ W.cell? ⟨gR2, 0, none⟩ = some (.int .i64 k) ∧ W.cell? ⟨gR2, 1, none⟩ = some (.int .i64 u.k) ∧ W.cell? ⟨gR2, 2, none⟩ = some (.int .i64 u.n) ∧ W.cell? ⟨gR2, 3, none⟩ = some (.string u.s) ∧ W.cell? ⟨gR2, 4, none⟩ = some (.slice A2 n d2) ∧ W.cell? ⟨g + 1, 0, none⟩ = some (.int .i64 dx) ∧ W.cell? ⟨g + 1, 1, none⟩ = some (.int .i64 dy) ∧ W.cell? ⟨gR5, 0, none⟩ = some (.int .i64 k) ∧ W.cell? ⟨gR5, 1, none⟩ = some (.int .i64 u.k) ∧ W.cell? ⟨gR5, 2, none⟩ = some (.int .i64 u.n) ∧ W.cell? ⟨gR5, 3, none⟩ = some (.string u.s) ∧ W.cell? ⟨gR5, 4, none⟩ = some (.slice A5 M d5) ∧ W.cell? ⟨gR6, 0, none⟩ = some (.int .i64 k) ∧ W.cell? ⟨gR6, 1, none⟩ = some (.int .i64 u.k) ∧ W.cell? ⟨gR6, 2, none⟩ = some (.int .i64 u.n) ∧ W.cell? ⟨gR6, 3, none⟩ = some (.string u.s) ∧ W.cell? ⟨gR6, 4, none⟩ = some (.slice A6 M d6))) (by kernel_rfl) ?_ (fun hHeld => ?_)
        · exact KA.out _ ((Below.refl _ _).drew)
        refine wpAnyH_one (by kernel_rfl) (fun _ _ _ _ _ h => h) (by assumption) 0 23 (some 136) ?_ _ (by rfl) (by rfl) (by kernel_rfl) (by rfl) ?_ ?_
        rotate_left 1
        · intro W hSw
          (try dsimp only at hSw)
          go_simp
          (try with_reducible rfl)
        (try simp only [Act.put, List.setIfInBounds_toArray, List.set_cons_zero, List.set_cons_succ])
        refine wpAnyH_one (by kernel_rfl) (fun _ _ _ _ _ h => h) (by assumption) 1 22 (some 137) ?_ _ (by rfl) (by rfl) (by kernel_rfl) (by rfl) ?_ ?_
        rotate_left 1
        · intro W hSw
          (try dsimp only at hSw)
          go_simp
          (try with_reducible rfl)
        (try simp only [Act.put, List.setIfInBounds_toArray, List.set_cons_zero, List.set_cons_succ])
        refine wpAnyH_one (by kernel_rfl) (fun _ _ _ _ _ h => h) (by assumption) 2 21 (some 138) ?_ _ (by rfl) (by rfl) (by kernel_rfl) (by rfl) ?_ ?_
        rotate_left 1
        · intro W hSw
          (try dsimp only at hSw)
          go_simp
          (try with_reducible rfl)
        (try simp only [Act.put, List.setIfInBounds_toArray, List.set_cons_zero, List.set_cons_succ])
        refine wpAnyH_ready (rs := [3]) (by kernel_rfl) (by simp) (AllReadyH.cons rfl (fun K hK => ?_) AllReadyH.nil)
        go_simp
        refine (RT.out _ _ _ (RL2.out.below hHeld.1)).mono ?_
        rintro e wx ⟨rfl, bb⟩
        (try go_wp2_with fail)
        refine hK.out _ _ ?_ (fun hHeld => ?_)
        · (try dsimp only)
          exact KA.out _ (below_then hHeld.1 bb)
        clear hK K
        (try simp only [Act.put, List.setIfInBounds_toArray, List.set_cons_zero, List.set_cons_succ])
        refine wpAnyH_one (by kernel_rfl) (fun _ _ _ _ _ h => h) (by assumption) 4 19 (some 140) ?_ _ (by rfl) (by rfl) (by kernel_rfl) (by rfl) ?_ ?_
        rotate_left 1
        · intro W hSw
          (try dsimp only at hSw)
          go_simp
          (try with_reducible rfl)
        (try simp only [Act.put, List.setIfInBounds_toArray, List.set_cons_zero, List.set_cons_succ])
        refine wpAnyH_one (by kernel_rfl) (fun _ _ _ _ _ h => h) (by assumption) 5 18 (some 141) ?_ _ (by rfl) (by rfl) (by kernel_rfl) (by rfl) ?_ ?_
        rotate_left 1
        · intro W hSw
          (try dsimp only at hSw)
          go_simp
          (try with_reducible rfl)
        (try simp only [Act.put, List.setIfInBounds_toArray, List.set_cons_zero, List.set_cons_succ])
        refine wpAnyH_one (by kernel_rfl) (fun _ _ _ _ _ h => h) (by assumption) 6 17 (some 142) ?_ _ (by rfl) (by rfl) (by kernel_rfl) (by rfl) ?_ ?_
        rotate_left 1
        · intro W hSw
          (try dsimp only at hSw)
          go_simp
          (try with_reducible rfl)
        (try simp only [Act.put, List.setIfInBounds_toArray, List.set_cons_zero, List.set_cons_succ])
        refine wpAnyH_one (by kernel_rfl) (fun _ _ _ _ _ h => h) (by assumption) 7 16 (some 143) ?_ _ (by rfl) (by rfl) (by kernel_rfl) (by rfl) ?_ ?_
        rotate_left 1
        · intro W hSw
          (try dsimp only at hSw)
          go_simp
          (try with_reducible rfl)
        (try simp only [Act.put, List.setIfInBounds_toArray, List.set_cons_zero, List.set_cons_succ])
        refine wpAnyH_one (by kernel_rfl) (fun _ _ _ _ _ h => h) (by assumption) 8 15 (some 144) ?_ _ (by rfl) (by rfl) (by kernel_rfl) (by rfl) ?_ ?_
        rotate_left 1
        · intro W hSw
          (try dsimp only at hSw)
          go_simp
          (try with_reducible rfl)
        (try simp only [Act.put, List.setIfInBounds_toArray, List.set_cons_zero, List.set_cons_succ])
        refine wpAnyH_one (by kernel_rfl) (fun _ _ _ _ _ h => h) (by assumption) 9 14 (some 145) ?_ _ (by rfl) (by rfl) (by kernel_rfl) (by rfl) ?_ ?_
        rotate_left 1
        · intro W hSw
          (try dsimp only at hSw)
          go_simp
          (try with_reducible rfl)
        (try simp only [Act.put, List.setIfInBounds_toArray, List.set_cons_zero, List.set_cons_succ])
        refine wpAnyH_one (by kernel_rfl) (fun _ _ _ _ _ h => h) (by assumption) 10 13 (some 146) ?_ _ (by rfl) (by rfl) (by kernel_rfl) (by rfl) ?_ ?_
        rotate_left 1
        · intro W hSw
          (try dsimp only at hSw)
          go_simp
          (try with_reducible rfl)
        (try simp only [Act.put, List.setIfInBounds_toArray, List.set_cons_zero, List.set_cons_succ])
        refine wpAnyH_one (by kernel_rfl) (fun _ _ _ _ _ h => h) (by assumption) 11 12 (some 147) ?_ _ (by rfl) (by rfl) (by kernel_rfl) (by rfl) ?_ ?_
        rotate_left 1
        · intro W hSw
          (try dsimp only at hSw)
          go_simp
          (try with_reducible rfl)
        (try simp only [Act.put, List.setIfInBounds_toArray, List.set_cons_zero, List.set_cons_succ])
        refine wpAnyH_one (by kernel_rfl) (fun _ _ _ _ _ h => h) (by assumption) 12 11 (some 148) ?_ _ (by rfl) (by rfl) (by kernel_rfl) (by rfl) ?_ ?_
        rotate_left 1
        · intro W hSw
          (try dsimp only at hSw)
          go_simp
          (try with_reducible rfl)
        (try simp only [Act.put, List.setIfInBounds_toArray, List.set_cons_zero, List.set_cons_succ])
        refine wpAnyH_one (by kernel_rfl) (fun _ _ _ _ _ h => h) (by assumption) 13 10 (some 149) ?_ _ (by rfl) (by rfl) (by kernel_rfl) (by rfl) ?_ ?_
        rotate_left 1
        · intro W hSw
          (try dsimp only at hSw)
          go_simp
          (try with_reducible rfl)
        (try simp only [Act.put, List.setIfInBounds_toArray, List.set_cons_zero, List.set_cons_succ])
        refine wpAnyH_one (by kernel_rfl) (fun _ _ _ _ _ h => h) (by assumption) 14 9 (some 150) ?_ _ (by rfl) (by rfl) (by kernel_rfl) (by rfl) ?_ ?_
        rotate_left 1
        · intro W hSw
          (try dsimp only at hSw)
          go_simp
          (try with_reducible rfl)
        (try simp only [Act.put, List.setIfInBounds_toArray, List.set_cons_zero, List.set_cons_succ])
        refine wpAnyH_one (by kernel_rfl) (fun _ _ _ _ _ h => h) (by assumption) 15 8 (some 151) ?_ _ (by rfl) (by rfl) (by kernel_rfl) (by rfl) ?_ ?_
        rotate_left 1
        · intro W hSw
          (try dsimp only at hSw)
          go_simp
          (try with_reducible rfl)
        (try simp only [Act.put, List.setIfInBounds_toArray, List.set_cons_zero, List.set_cons_succ])
        refine wpAnyH_one (by kernel_rfl) (fun _ _ _ _ _ h => h) (by assumption) 16 7 (some 152) ?_ _ (by rfl) (by rfl) (by kernel_rfl) (by rfl) ?_ ?_
        rotate_left 1
        · intro W hSw
          (try dsimp only at hSw)
          go_simp
          (try with_reducible rfl)
        (try simp only [Act.put, List.setIfInBounds_toArray, List.set_cons_zero, List.set_cons_succ])
        refine wpAnyH_one (by kernel_rfl) (fun _ _ _ _ _ h => h) (by assumption) 17 6 (some 153) ?_ _ (by rfl) (by rfl) (by kernel_rfl) (by rfl) ?_ ?_
        rotate_left 1
        · intro W hSw
          (try dsimp only at hSw)
          go_simp
          (try with_reducible rfl)
        (try simp only [Act.put, List.setIfInBounds_toArray, List.set_cons_zero, List.set_cons_succ])
        refine wpAnyH_one (by kernel_rfl) (fun _ _ _ _ _ h => h) (by assumption) 19 5 (some 155) ?_ _ (by rfl) (by rfl) (by kernel_rfl) (by rfl) ?_ ?_
        rotate_left 1
        · intro W hSw
          (try dsimp only at hSw)
          go_simp
          (try with_reducible rfl)
        (try simp only [Act.put, List.setIfInBounds_toArray, List.set_cons_zero, List.set_cons_succ])
        refine wpAnyH_ready (rs := [18]) (by kernel_rfl) (by simp) (AllReadyH.cons rfl (fun K hK => ?_) AllReadyH.nil)
        go_simp
        refine (E6.out _ _ _ (RL5.out.below hHeld.1)).mono ?_
        rintro e wx ⟨Ae, de, rfl, re, bb⟩
        have HE := Lib.hid re
        clear re
        (try go_wp2_with fail)
        refine hK.out _ _ ?_ (fun hHeld => ?_)
        · (try dsimp only)
          exact KA.out _ (below_then hHeld.1 bb)
        clear hK K
        (try simp only [Act.put, List.setIfInBounds_toArray, List.set_cons_zero, List.set_cons_succ])
        refine wpAnyH_ready (rs := [20]) (by kernel_rfl) (by simp) (AllReadyH.cons rfl (fun K hK => ?_) AllReadyH.nil)
        go_simp
        refine (SM.out M Ae de A6 d6 TL2 _ HE.out (RL6.out.below hHeld.1)).mono ?_
        rintro e wx ⟨rfl, bb⟩
        (try go_wp2_with fail)
        refine hK.out _ _ ?_ (fun hHeld => ?_)
        · (try dsimp only)
          exact KA.out _ (below_then hHeld.1 bb)
        clear hK K
        (try simp only [Act.put, List.setIfInBounds_toArray, List.set_cons_zero, List.set_cons_succ])
        refine wpAnyH_one (by kernel_rfl) (fun _ _ _ _ _ h => h) (by assumption) 21 2 (some 157) ?_ _ (by rfl) (by rfl) (by kernel_rfl) (by rfl) ?_ ?_
        rotate_left 1
        · intro W hSw
          (try dsimp only at hSw)
          go_simp
          (try with_reducible rfl)
        (try simp only [Act.put, List.setIfInBounds_toArray, List.set_cons_zero, List.set_cons_succ])
        refine wpAnyH_one (by kernel_rfl) (fun _ _ _ _ _ h => h) (by assumption) 22 1 (some 158) ?_ _ (by rfl) (by rfl) (by kernel_rfl) (by rfl) ?_ ?_
        rotate_left 1
        · intro W hSw
          (try dsimp only at hSw)
          go_simp
          (try with_reducible rfl)
        (try simp only [Act.put, List.setIfInBounds_toArray, List.set_cons_zero, List.set_cons_succ])
        refine wpAnyH_one (by kernel_rfl) (fun _ _ _ _ _ h => h) (by assumption) 23 0 (some 14) ?_ _ (by rfl) (by rfl) (by kernel_rfl) (by rfl) ?_ ?_
        rotate_left 1
        · intro W hSw
          (try dsimp only at hSw)
          go_simp
          (try with_reducible rfl)
        (try simp only [Act.put, List.setIfInBounds_toArray, List.set_cons_zero, List.set_cons_succ])
        refine wpAnyH_done (by kernel_rfl) ?_ _
        refine NoPanic.normal ?_
        (try simp only [Act.put, List.setIfInBounds_toArray, List.set_cons_zero, List.set_cons_succ])
        have HZ := Lib.hid (below_then HB.out hHeld.1)
        go_wp2_with fail
        go_ret
        exact ⟨rfl, HZ.out⟩

set_option maxRecDepth 100000 in
theorem contract (H : Type) (enc : TypeId × Value → H) (W : World) (base : Nat) (args : Array Value) (ds gs : List (DataW H)) (before : List MemPlace)
    (hval : ∀ (j : Nat) t v, Try.f7.params[j]? = some t → args[j]? = some v → Value.okWide Try.prog W .any base t v)
    (hW : DataW.Whole enc Try.prog Try.f7.params.toList Rows.textGoneSpec.vars false W args.toList ds gs before) :
    Calls Try.prog 7 args W fun e W' => ∃ v, e = .returned v ∧ Rows.textGoneSpec.post enc Try.prog Try.f7 false true false false W args v W' := by
  have hlt : ∀ x ∈ before, x.block < W.heap.size := fun x hx => by simpa using hW.lt x hx
  refine law_step 4 Try.laid_ (by kernel_rfl) rfl Try.underlying4 rfl hW (fun xs hx => ?_) ?_
  · match xs, hx with
    | [d0, d1, d2, d3, d4, d5, d6], _ => rfl
  · obtain ⟨p, q, hA0, hV, rfl, _, _⟩ := hW
    have hA : DataW.TrodAll enc Try.prog W 0 (fun _ => true) true Try.f7.params.toList args.toList ds p := hA0
    rw [Try.params7] at hA hval
    obtain ⟨v0, vs0, d0, ds0, p0, q0, e0, rfl, rfl, h0, r0⟩ := trodAll_cons hA
    obtain ⟨v1, vs1, d1, ds1, p1, q1, e1, rfl, rfl, h1, r1⟩ := trodAll_cons r0
    obtain ⟨v2, vs2, d2, ds2, p2, q2, e2, rfl, rfl, h2, r2⟩ := trodAll_cons r1
    obtain ⟨v3, vs3, d3, ds3, p3, q3, e3, rfl, rfl, h3, r3⟩ := trodAll_cons r2
    obtain ⟨v4, vs4, d4, ds4, p4, q4, e4, rfl, rfl, h4, r4⟩ := trodAll_cons r3
    obtain ⟨v5, vs5, d5, ds5, p5, q5, e5, rfl, rfl, h5, r5⟩ := trodAll_cons r4
    obtain ⟨v6, vs6, d6, ds6, p6, q6, e6, rfl, rfl, h6, r6⟩ := trodAll_cons r5
    obtain ⟨rfl, rfl, rfl⟩ := trodAll_nil r6
    subst e6
    subst e5
    subst e4
    subst e3
    subst e2
    subst e1
    obtain rfl : args = #[v0, v1, v2, v3, v4, v5, v6] := by cases args; simp_all
    clear e0 hA0
    obtain ⟨k0, u0, A0, n0, c0, l, rfl, rd0, wk0, wu0, wl0⟩ := open_cell (hval 0 26 v0 rfl rfl) h0
    obtain ⟨x1, y1, rfl, wx1, wy1⟩ := open_dot (hval 1 37 v1 rfl rfl) h1
    obtain ⟨i, rfl, rfl, rfl, w2⟩ := open_int Try.underlying3 (hval 2 3 v2 rfl rfl) h2
    obtain ⟨lo2, hi2⟩ := wf_i64 w2
    obtain ⟨x3, y3, rfl, wx3, wy3⟩ := open_dot (hval 3 37 v3 rfl rfl) h3
    obtain ⟨j, rfl, rfl, rfl, w4⟩ := open_int Try.underlying3 (hval 4 3 v4 rfl rfl) h4
    obtain ⟨lo4, hi4⟩ := wf_i64 w4
    obtain ⟨x5, rfl, wf5⟩ := open_stamp (hval 5 42 v5 rfl rfl) h5
    obtain ⟨s, rfl, rfl, rfl, ws6⟩ := open_string Try.underlying9 (hval 6 9 v6 rfl rfl) h6
    exact walk k0 u0 A0 n0 c0 l x1 y1 i x3 y3 j x5.t x5.d x5.q s W rd0

set_option maxRecDepth 100000 in
theorem lifted (os : Os) (started : os.Started) (H : Type) (enc : TypeId × Value → H) :
    ReturnsInHanded {} Try.checked os 7 .any (Rows.textGoneSpec.pre6 enc Try.prog Try.f7 Rows.textGoneRow.domain false) (Rows.textGoneSpec.post enc Try.prog Try.f7 false true false false) := by
  refine returnsInHanded_of_change (C := Try.checked) Try.own_ started (by kernel_rfl) Try.func7
    (ChangeSpec.witness6 (enc := enc) (C := Try.checked) false ⟨#[], #[.agg #[.int .i64 0, .int .i64 0, .int .i64 0, .string ⟨#[]⟩, .slice none 0 0], .agg #[.int .i64 0, .int .i64 0], .int .i64 0, .agg #[.int .i64 0, .int .i64 0], .int .i64 0, .agg #[.int .i64 0, .int .i64 0, .int .i64 0], .string ⟨#[]⟩], []⟩ 8 (by kernel_rfl) (by kernel_rfl) (by kernel_rfl) (by kernel_rfl)) ?_
  intro W base args ds gs before hval hW _ _
  exact contract H enc W base args ds gs before hval hW

theorem holds : Rows.TextGoneSaid :=
  OpenClaim.holds_of_wide 7 Try.f7 rfl rfl rfl rfl rfl rfl rfl ⟨rfl, rfl, rfl, rfl, rfl⟩ rfl rfl rfl rfl rfl (by kernel_rfl) Try.func7 (by kernel_rfl)
    (of_decide_eq_true (by kernel_rfl)) (by unfold Func.isWrapper; first | (rw [if_pos (by decide +kernel)]; kernel_rfl) | (rw [if_neg (by decide +kernel)]; exact ⟨rfl, rfl⟩))
    (fun os started H enc _ => lifted os started H enc)
end Go.Proofs.Ythniobpmaahggaa.textGone

