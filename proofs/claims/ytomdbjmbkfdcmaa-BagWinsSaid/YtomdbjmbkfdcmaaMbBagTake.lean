/- Layer 9: bag.Take. -/
import Derived.Test.YtomdbjmbkfdcmaaMbBagCol
import Derived.Test.YtomdbjmbkfdcmaaMbJoin
namespace Go.Proofs.Ytomdbjmbkfdcmaa
set_option maxRecDepth 100000
open Go.RowKit Go.Sort

theorem Try.egLeaves : ∀ args w, (callFunc 65 args).run Try.prog w = .ok (.enter 65 args) w := enters_of Try.func65 (by kernel_rfl) rfl
theorem rd_set1 {w : World} {A : Option Addr} {n c : Nat} {l : List P11} (h : RdP w A n c l) (g : Nat) (hA : ∀ a, A = some a → a.block ≠ g) (j : Nat) (x : Value) : RdP (w.setCell ⟨g, j, none⟩ x) A n c l := by
  obtain ⟨hl, h1, h2, hx⟩ := h
  refine ⟨hl, h1, h2, fun h0 => ?_⟩
  obtain ⟨b, o, rfl, hb, hc⟩ := hx h0
  refine ⟨b, o, rfl, by rw [World.size_setCell]; exact hb, fun k hk i v hv => ?_⟩
  rw [World.cell?_setCell_other _ _ _ _ (by intro e; have e2 := congrArg Addr.block e; exact hA _ rfl e2.symm)]
  exact hc k hk i v hv
theorem rd_set5 {w : World} {A : Option Addr} {n c : Nat} {l : List P11} (h : RdP w A n c l) (g : Nat) (hA : ∀ a, A = some a → a.block ≠ g) (x y z u v : Value) :
    RdP (((((w.setCell ⟨g, 0, none⟩ x).setCell ⟨g, 1, none⟩ y).setCell ⟨g, 2, none⟩ z).setCell ⟨g, 3, none⟩ u).setCell ⟨g, 4, none⟩ v) A n c l :=
  rd_set1 (rd_set1 (rd_set1 (rd_set1 (rd_set1 h g hA 0 _) g hA 1 _) g hA 2 _) g hA 3 _) g hA 4 _
theorem below_put5 {a w : World} {B g : Nat} (h : Below B a w) (hg : B ≤ g) (x y z u v : Value) : Below B a (((((w.setCell ⟨g, 0, none⟩ x).setCell ⟨g, 1, none⟩ y).setCell ⟨g, 2, none⟩ z).setCell ⟨g, 3, none⟩ u).setCell ⟨g, 4, none⟩ v) :=
  ((((h.setCell hg _).setCell hg _).setCell hg _).setCell hg _).setCell hg _
theorem row_other {w : World} {g b : Nat} {o : Obj} (h : w.heap[g]? = some o) (hne : g ≠ b) (j : Nat) (v : Value) : (w.setCell ⟨b, j, none⟩ v).heap[g]? = some o := by
  rw [← h]
  show (w.heap.modify b _)[g]? = _
  rw [Array.getElem?_modify, if_neg (fun e => hne e.symm)]

set_option maxHeartbeats 6400000 in
theorem takeB_any (ka : Int) (va : V3) (A : Option Addr) (m c : Nat) (l : List P11) (n : Int) (d : D2) (D : Option Addr) (q qc : Nat) (kn : List Int) (w : World)
    (ha : RdP w A m c l) (hn : m ≤ 4294967000) (hk : Rd w D q qc (vals .i64 kn)) :
    Calls Try.prog 24 #[cellV ka va (.slice A m c), .int .i64 n, d.agg, .slice D q qc] w fun e w' =>
      ∃ A' c', e = .returned (cellV ka va (.slice A' (takeB l n d kn).length c')) ∧ RdP w' A' (takeB l n d kn).length c' (takeB l n d kn) ∧ Below w.heap.size w w' := by
  obtain ⟨w1, hw1⟩ : ∃ w1, w1 = ((w.alloc (cellRow ka va (.slice A m c))).alloc (dotRow d)).alloc (cellRow 0 ⟨0, 0, ⟨#[]⟩⟩ (.slice none 0 0)) := ⟨_, rfl⟩
  have hb1 : Below w.heap.size w w1 := by rw [hw1]; exact below_new (below_new (below_new (Below.refl _ _) _) _) _
  have hs1 : w1.heap.size = w.heap.size + 3 := by rw [hw1]; simp
  have h4 : w1.heap[w.heap.size]? = some (cellRow ka va (.slice A m c)) := by rw [hw1]; exact old_at _ (old_at _ (heap_alloc_new w _))
  have h6 : w1.heap[w.heap.size + 1]? = some (dotRow d) := by rw [hw1]; exact old_at _ (new_at _ _ _ (by simp))
  have h8 : w1.heap[w.heap.size + 1 + 1]? = some (cellRow 0 ⟨0, 0, ⟨#[]⟩⟩ (.slice none 0 0)) := by rw [hw1]; exact new_at _ _ _ (by simp)
  obtain ⟨w2, hw2⟩ : ∃ w2, w2 = (w1.alloc (.cells #[.slice A m c] 24)).alloc (.cells #[.func (.func 65) #[takerV n d D q qc] #[]] 60) := ⟨_, rfl⟩
  have b2 : Below w1.heap.size w1 w2 := by rw [hw2]; exact below_new (below_new (Below.refl _ _) _) _
  have hit := itp_new A m c (.func (.func 65) #[takerV n d D q qc] #[]) w1
  rw [← hw2] at hit
  have CO := Lib.hid (collect_any w1.heap.size (w1.heap.size + 1) A m c l 65 (takerV n d D q qc) (leavesB n d kn) w1 w2 Try.egLeaves (ha.below hb1)
    (fun W hW x => leaves_any n d kn D q qc x W ((hk.below hb1).below hW)) hit hn)
  obtain ⟨N, hN⟩ : ∃ N, Hid ((l.filter (leavesB n d kn)).length = N) := ⟨_, rfl⟩
  have TH : ∀ (g : Nat) (r : Value) (W : World), Calls Try.prog 50 #[.slice A m c, .func (.func g) #[r] #[]] W fun e w' =>
    e = .returned (.func (.func 89) #[] #[.pointer (some ⟨W.heap.size, 0, none⟩), .pointer (some ⟨W.heap.size + 1, 0, none⟩)]) ∧ w' = (W.alloc (.cells #[.slice A m c] 24)).alloc (.cells #[.func (.func g) #[r] #[]] 60) := fun g r W => those_any A m c g r W
  replace TH := Lib.hid TH
  have HT : takeB l n d kn = l.filter (leavesB n d kn) := rfl
  rw [HT, hN.out]
  rw [hN.out] at CO
  obtain ⟨c0, c1, c2, c3, c4⟩ := cell_row5 h4
  obtain ⟨d0, d1⟩ := dot_row h6
  have HB1 := Lib.hid hb1; have HB2 := Lib.hid b2; have H4 := Lib.hid h4; have H8 := Lib.hid h8
  have HS := Lib.hid hs1
  replace hw1 := Lib.hid hw1; replace hw2 := Lib.hid hw2
  clear ha hk hb1 b2 hit h4 h6 h8 hs1 HT
  go_enter Try.func24, Try.ntmps24
  go_upto_region 1 with fail
  rw [show ((w.alloc (cellRow ka va (.slice A m c))).alloc (dotRow d)).alloc (cellRow 0 ⟨0, 0, ⟨#[]⟩⟩ (.slice none 0 0)) = w1 from hw1.out.symm]
  clear hw1
  go_wp2_with fail
  refine (TH.out _ _ _).mono ?_
  rintro e w2' ⟨rfl, hw2'⟩
  rw [← hw2.out] at hw2'
  subst hw2'
  clear hw2 TH
  have HB12 := Lib.hid HB2.out
  go_wp2_with fail
  refine CO.out.mono ?_
  rintro e w3 ⟨v, rfl, hown, b3⟩
  obtain ⟨A', c', rfl, hrd⟩ := RdG.own_ p11len (by omega) hown
  have B13 := Lib.hid (below_then HB2.out b3)
  have r4 := row_below H4.out B13.out
  have r8 := row_below H8.out B13.out
  obtain ⟨e0, e1, e2, e3, e4⟩ := cell_row5 r4
  have f4 := frozen_row r4
  have hne : w.heap.size ≠ w.heap.size + 1 + 1 := by omega
  obtain ⟨w4, hw4⟩ : ∃ w4, w4 = w3.setCell ⟨w.heap.size, 4, none⟩ (.slice A' N c') := ⟨_, rfl⟩
  have q4 : w4.heap[w.heap.size]? = some (cellRow ka va (.slice A' N c')) := by rw [hw4, set_row r4 4]; rfl
  have q8 : w4.heap[w.heap.size + 1 + 1]? = some (cellRow 0 ⟨0, 0, ⟨#[]⟩⟩ (.slice none 0 0)) := by rw [hw4]; exact row_other r8 (by omega) _ _
  have hA1 : ∀ a, A' = some a → a.block ≠ w.heap.size := fun a ha => by
    have h1 := (hown.lt a.block (by rw [ha]; rfl)).1
    have h2 := HB2.out.size; have h3 := HS.out
    omega
  have hA2 : ∀ a, A' = some a → a.block ≠ w.heap.size + 1 + 1 := fun a ha => by
    have h1 := (hown.lt a.block (by rw [ha]; rfl)).1
    have h2 := HB2.out.size; have h3 := HS.out
    omega
  have RD4 := Lib.hid (show RdP w4 A' N c' (l.filter (leavesB n d kn)) by rw [hw4]; exact rd_set1 hrd _ hA1 _ _)
  have BB4 := Lib.hid (show Below w.heap.size w w4 by rw [hw4]; exact (HB1.out.trans (B13.out.mono (by have := HS.out; omega))).setCell (Nat.le_refl _) _)
  obtain ⟨g0, g1, g2, g3, g4⟩ := cell_row5 q4
  obtain ⟨k0, k1, k2, k3, k4⟩ := cell_row5 q8
  have f8 := frozen_row q8
  have HQ8 := Lib.hid q8
  have HA2 := Lib.hid hA2
  replace hw4 := Lib.hid hw4
  clear r4 r8 q4 q8 hA1 hA2 hrd hown b3 CO hne
  go_upto_region 2 with fail
  rw [show w3.setCell ⟨w.heap.size, 4, none⟩ (.slice A' N c') = w4 from hw4.out.symm]
  clear hw4
  go_wp2_with fail
  refine bodyPost_ret (v := cellV ka va (.slice A' N c')) (results_cell_row rfl _ _ (w.heap.size + 1 + 1) 26 _ (0, 0) _ rfl (set5 HQ8.out) Try.underlying26 rfl (by kernel_rfl)) rfl ?_
  exact ⟨A', c', rfl, rd_set5 RD4.out _ HA2.out _ _ _ _ _, below_put5 BB4.out (by omega) _ _ _ _ _⟩
end Go.Proofs.Ytomdbjmbkfdcmaa

