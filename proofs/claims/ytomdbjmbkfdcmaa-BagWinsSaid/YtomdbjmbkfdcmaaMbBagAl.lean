/- Layer 9: the examples, in plain mathematics; answers named ahead. -/
import Derived.Test.YtomdbjmbkfdcmaaMbBagRight
import Derived.Test.YtomdbjmbkfdcmaaMbBagPut
import Derived.Test.YtomdbjmbkfdcmaaMbBagTake
import Derived.Test.YtomdbjmbkfdcmaaMbBagNums
import Derived.Test.YtomdbjmbkfdcmaaMbBagSorted
import Derived.Test.YtomdbjmbkfdcmaaMbBagJoin
import Derived.Test.YtomdbjmbkfdcmaaMbMulRef
namespace Go.Proofs.Ytomdbjmbkfdcmaa
set_option maxRecDepth 100000
open Go.RowKit Go.Sort Srt

abbrev zeroVal : V3 := ⟨0, 0, ⟨#[]⟩⟩
theorem same7_is (ka : Int) (va : V3) (A B : Option Addr) (n c d : Nat) (la : List P11) (w : World) (ha : RdP w A n c la) (hb : RdP w B n d la) :
    Calls Try.prog 14 #[cellV ka va (.slice A n c), cellV ka va (.slice B n d)] w fun e w' => e = .returned (.bool true) ∧ Below w.heap.size w w' := by
  have := refSame7_any ka va A n c la ka va B n d la w ha hb
  simpa using this

/-- a store into a variable that holds a cell: what reads as parts does so still -/
theorem rdp_set {w : World} {A : Option Addr} {n c : Nat} {l : List P11} (h : RdP w A n c l) {g : Nat} {cs : Array Value} {t : TypeId} {fr : Nat × Nat} (hg : w.heap[g]? = some (.cells cs t fr)) (hs : cs.size ≤ 10) (j : Nat) (v : Value) : RdP (w.setCell ⟨g, j, none⟩ v) A n c l := by
  obtain ⟨hl, h1, h2, hx⟩ := h
  refine ⟨hl, h1, h2, fun h0 => ?_⟩
  obtain ⟨b, o, rfl, hb, hc⟩ := hx h0
  have hbg : b ≠ g := by
    intro e
    subst e
    have h3 := hc 0 (by omega) 10 _ rfl
    rw [cell_row hg] at h3
    have h4 := (Array.getElem?_eq_some_iff.1 h3).1
    omega
  refine ⟨b, o, rfl, by rw [World.size_setCell]; exact hb, fun q hq i u hu => ?_⟩
  rw [World.cell?_setCell_other _ _ _ _ (by intro e; simp only [Addr.mk.injEq] at e; exact hbg (by first | exact e.1 | exact e.1.symm))]
  exact hc q hq i u hu
theorem rdp_set5 {w : World} {A : Option Addr} {n c : Nat} {l : List P11} (h : RdP w A n c l) {g : Nat} {k : Int} {u : V3} {s : Value} (hg : w.heap[g]? = some (cellRow k u s)) (x y z a b : Value) :
    RdP (((((w.setCell ⟨g, 0, none⟩ x).setCell ⟨g, 1, none⟩ y).setCell ⟨g, 2, none⟩ z).setCell ⟨g, 3, none⟩ a).setCell ⟨g, 4, none⟩ b) A n c l := by
  have r1 := set_row hg 0 x
  have r2 := set_row r1 1 y
  have r3 := set_row r2 2 z
  have r4 := set_row r3 3 a
  exact rdp_set (rdp_set (rdp_set (rdp_set (rdp_set h hg (by simp) 0 x) r1 (by simp) 1 y) r2 (by simp) 2 z) r3 (by simp) 3 a) r4 (by simp) 4 b
theorem set5_other {w : World} {g g' : Nat} {x y z a b : Value} (hg : g ≠ g') : (((((w.setCell ⟨g, 0, none⟩ x).setCell ⟨g, 1, none⟩ y).setCell ⟨g, 2, none⟩ z).setCell ⟨g, 3, none⟩ a).setCell ⟨g, 4, none⟩ b).heap[g']? = w.heap[g']? := by
  have ho : ∀ (w : World) (j : Nat) (x : Value), (w.setCell ⟨g, j, none⟩ x).heap[g']? = w.heap[g']? := fun w j x => by
    show (w.heap.modify g _)[g']? = _
    rw [Array.getElem?_modify, if_neg hg]
  rw [ho, ho, ho, ho, ho]
theorem below_set5 {w0 w : World} {B g : Nat} {x y z a b : Value} (h : Below B w0 w) (hg : B ≤ g) : Below B w0 (((((w.setCell ⟨g, 0, none⟩ x).setCell ⟨g, 1, none⟩ y).setCell ⟨g, 2, none⟩ z).setCell ⟨g, 3, none⟩ a).setCell ⟨g, 4, none⟩ b) :=
  ((((h.setCell hg x).setCell hg y).setCell hg z).setCell hg a).setCell hg b

abbrev b1 : P11 := partB ⟨5, ⟨1, 1⟩⟩
abbrev b2 : P11 := partB ⟨5, ⟨2, 1⟩⟩
abbrev b3 : P11 := partB ⟨-3, ⟨2, 1⟩⟩
theorem ab_p1 : putB [] ⟨5, ⟨1, 1⟩⟩ = [b1] := by rw [putB, if_neg (by decide), insB_nil]
theorem ab_p2 : putB [b1] ⟨5, ⟨2, 1⟩⟩ = [b1, b2] := by
  have h : ltB b2 b1 = false := by decide
  rw [putB, if_neg (by decide), insB_cons, if_neg (by rw [h]; decide), insB_nil]
theorem ab_p3 : putB [b1, b2] ⟨-3, ⟨2, 1⟩⟩ = [b3, b1, b2] := by
  have h : ltB b3 b1 = true := by decide
  rw [putB, if_neg (by decide), insB_cons, if_pos h]
theorem ab_t1 : takeB [b3, b1, b2] 5 ⟨3, 1⟩ [1] = [b3, b2] := by
  have h1 : leavesB 5 ⟨3, 1⟩ [1] b3 = true := by decide
  have h2 : leavesB 5 ⟨3, 1⟩ [1] b1 = false := by decide
  have h3 : leavesB 5 ⟨3, 1⟩ [1] b2 = true := by decide
  rw [takeB, List.filter_cons, if_pos h1, List.filter_cons, if_neg (by rw [h2]; decide), List.filter_cons, if_pos h3, List.filter_nil]
theorem ab_t2 : takeB [b3, b2] 5 ⟨3, 2⟩ [1, 1] = [b3] := by
  have h1 : leavesB 5 ⟨3, 2⟩ [1, 1] b3 = true := by decide
  have h3 : leavesB 5 ⟨3, 2⟩ [1, 1] b2 = false := by decide
  rw [takeB, List.filter_cons, if_pos h1, List.filter_cons, if_neg (by rw [h3]; decide), List.filter_nil]
theorem srtI_id {l : List Int} (h : l.Pairwise fun a b => decide (a ≤ b) = true) : srtI l = l := List.mergeSort_of_pairwise h
theorem ab_n3 : numsB [b3, b1, b2] = [-3, 5] := by
  show Lib.compact (srtI [-3, 5, 5]) = _
  rw [srtI_id (by decide)]
  rfl
theorem ab_n1 : numsB [b3] = [-3] := by
  show Lib.compact (srtI [-3]) = _
  rw [srtI_id (by decide)]
  rfl
theorem ab_h1 : hasB [b3, b2] 5 = true := by decide
theorem ab_h0 : hasB [b3] 5 = false := by decide
theorem ab_right : rightS 3 zeroVal [b3, b1, b2] = true := by
  have h1 : okB b1 = true := by simp [okB, partB, part0, V3.right, rightZ]; rfl
  have h2 : okB b2 = true := by simp [okB, partB, part0, V3.right, rightZ]; rfl
  have h3 : okB b3 = true := by simp [okB, partB, part0, V3.right, rightZ]; rfl
  have hr : RightB [b3, b1, b2] := ⟨fun p hp => by simp only [List.mem_cons, List.not_mem_nil, or_false] at hp; rcases hp with rfl | rfl | rfl <;> assumption,
    show List.Pairwise _ _ from by
      refine List.pairwise_cons.2 ⟨fun y hy => ?_, List.pairwise_cons.2 ⟨fun y hy => ?_, List.pairwise_singleton _ _⟩⟩
      · simp only [List.mem_cons, List.not_mem_nil, or_false] at hy; rcases hy with rfl | rfl <;> decide
      · rw [List.mem_singleton] at hy; subst hy; decide⟩
  have hz : zeroVal = zeroV := rfl
  simp [rightS, hr, hz]
theorem ab_wrong : rightS 0 zeroVal [] = false := by simp [rightS]
theorem ab_j : bjoin [b3, b1, b2] [b3] [1, 1] [1, 1, 2] = [b3] := by
  have h1 : keepsB [b3] [1, 1, 2] b3 = true := by decide
  have h2 : keepsB [b3] [1, 1, 2] b1 = false := by decide
  have h3 : keepsB [b3] [1, 1, 2] b2 = false := by decide
  have h4 : lacksB [b3, b1, b2] [1, 1] b3 = false := by decide
  rw [bjoin_steps, List.filter_cons, if_pos h1, List.filter_cons, if_neg (by rw [h2]; decide), List.filter_cons, if_neg (by rw [h3]; decide), List.filter_nil, List.filter_cons, if_neg (by rw [h4]; decide), List.filter_nil]
  show insB [] b3 = _
  rw [insB_nil]

theorem putB_is (ka : Int) (va : V3) (A : Option Addr) (n c : Nat) (l : List P11) (m : Int) (d : D2) (w : World) (ha : RdP w A n c l) (hn : n ≤ 4294967000) (L : List P11) (q : Nat) (hL : putB l ⟨m, d⟩ = L) (hq : L.length = q) :
    Calls Try.prog 22 #[cellV ka va (.slice A n c), .int .i64 m, d.agg] w fun e w' =>
      ∃ A' c', e = .returned (cellV ka va (.slice A' q c')) ∧ RdP w' A' q c' L ∧ Below w.heap.size w w' := by
  subst hL; subst hq; exact putB_any ka va A n c l m d w ha hn
theorem takeB_is (ka : Int) (va : V3) (A : Option Addr) (m c : Nat) (l : List P11) (n : Int) (d : D2) (D : Option Addr) (p pc : Nat) (kn : List Int) (w : World)
    (ha : RdP w A m c l) (hn : m ≤ 4294967000) (hk : Rd w D p pc (vals .i64 kn)) (L : List P11) (q : Nat) (hL : takeB l n d kn = L) (hq : L.length = q) :
    Calls Try.prog 24 #[cellV ka va (.slice A m c), .int .i64 n, d.agg, .slice D p pc] w fun e w' =>
      ∃ A' c', e = .returned (cellV ka va (.slice A' q c')) ∧ RdP w' A' q c' L ∧ Below w.heap.size w w' := by
  subst hL; subst hq; exact takeB_any ka va A m c l n d D p pc kn w ha hn hk
theorem bjoin_is (ka : Int) (va : V3) (A : Option Addr) (n c : Nat) (la : List P11) (kb : Int) (vb : V3) (B : Option Addr) (m d : Nat) (lb : List P11) (C : Option Addr) (p pc : Nat) (na : List Int) (D : Option Addr) (q qc : Nat) (nb : List Int) (w : World)
    (ha : RdP w A n c la) (hb : RdP w B m d lb) (hn : n + m ≤ 4294967000) (hka : Rd w C p pc (vals .i64 na)) (hkb : Rd w D q qc (vals .i64 nb)) (L : List P11) (r : Nat) (hL : bjoin la lb na nb = L) (hr : L.length = r) :
    Calls Try.prog 20 #[cellV ka va (.slice A n c), cellV kb vb (.slice B m d), .slice C p pc, .slice D q qc] w fun e w' =>
      ∃ A' c', e = .returned (cellV 3 ⟨0, 0, ⟨#[]⟩⟩ (.slice A' r c')) ∧ RdP w' A' r c' L ∧ Below w.heap.size w w' := by
  subst hL; subst hr; exact bjoin_any ka va A n c la kb vb B m d lb C p pc na D q qc nb w ha hb hn hka hkb
theorem hasB_is (ka : Int) (va : V3) (A : Option Addr) (m c : Nat) (l : List P11) (z : Int) (w : World) (h : RdP w A m c l) (r : Bool) (hr : hasB l z = r) :
    Calls Try.prog 23 #[cellV ka va (.slice A m c), .int .i64 z] w fun e w' => e = .returned (.bool r) ∧ Below w.heap.size w w' := by
  subst hr; exact hasB_any ka va A m c l z w h
theorem numbersB_is (ka : Int) (va : V3) (A : Option Addr) (m c : Nat) (l : List P11) (w : World) (h : RdP w A m c l) (hn : m ≤ 4294967000) (L : List Int) (q : Nat) (hL : numsB l = L) (hq : L.length = q) :
    Calls Try.prog 47 #[cellV ka va (.slice A m c)] w fun e w' => ∃ A' c', e = .returned (.slice A' q c') ∧ Rd w' A' q c' (vals .i64 L) ∧ Below w.heap.size w w' := by
  subst hL; subst hq; exact numbersB_any ka va A m c l w h hn
theorem showB_is (ka : Int) (va : V3) (A : Option Addr) (m c : Nat) (l : List P11) (w : World) (h : RdP w A m c l) (hn : m ≤ 4294967000) (q : Nat) (hq : (numsB l).length = q) :
    Calls Try.prog 30 #[cellV ka va (.slice A m c)] w fun e w' => e = .returned (.agg #[.int .i64 1, .int .i64 (q : Nat), .string ⟨#[]⟩]) ∧ Below w.heap.size w w' := by
  subst hq; exact showB_any ka va A m c l w h hn
theorem rightS_is (ka : Int) (va : V3) (A : Option Addr) (n c : Nat) (l : List P11) (w : World) (h : RdP w A n c l) (r : Bool) (hr : rightS ka va l = r) :
    Calls Try.prog 18 #[cellV ka va (.slice A n c)] w fun e w' => e = .returned (.bool r) ∧ Below w.heap.size w w' := by
  subst hr; exact rightS_any ka va A n c l w h
end Go.Proofs.Ytomdbjmbkfdcmaa

