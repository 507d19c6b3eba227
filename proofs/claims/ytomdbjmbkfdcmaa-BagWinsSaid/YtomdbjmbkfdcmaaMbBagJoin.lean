/- Layer 9: bag.Join. -/
import Derived.Test.YtomdbjmbkfdcmaaMbBagSpots
import Derived.Test.YtomdbjmbkfdcmaaMbBagSort
import Derived.Test.YtomdbjmbkfdcmaaMbBagTake
import Derived.Test.YtomdbjmbkfdcmaaMbJoin
import Derived.Deep.DeepCutAuto
import Derived.Deep.CutBlock
namespace Go.Proofs.Ytomdbjmbkfdcmaa
set_option maxRecDepth 100000
open Go.RowKit Go.Sort Go.Shelf Srt
attribute [local go_sem] Oper.semAt_some

theorem Try.egKeepsB : ∀ args w, (callFunc 51 args).run Try.prog w = .ok (.enter 51 args) w := enters_of Try.func51 (by kernel_rfl) rfl
theorem Try.egLacksB : ∀ args w, (callFunc 52 args).run Try.prog w = .ok (.enter 52 args) w := enters_of Try.func52 (by kernel_rfl) rfl
theorem MapQ.alloc {w : World} {g : Nat} {ds : Sp → Bool} (h : MapQ w g ds) (o : Obj) : MapQ (w.alloc o) g ds := h.below (below_new (Below.refl _ _) _)
theorem MapQ.drew_ {w : World} {g : Nat} {ds : Sp → Bool} (h : MapQ w g ds) : MapQ w.drew g ds := h.below (Below.refl _ _).drew
theorem MapQ.setCell {w : World} {g : Nat} {ds : Sp → Bool} (h : MapQ w g ds) (b j : Nat) (v : Value) (hne : g ≠ b) : MapQ (w.setCell ⟨b, j, none⟩ v) g ds := by
  obtain ⟨es, clock, hb, h1, h2⟩ := h
  exact ⟨es, clock, row_other hb hne _ _, h1, h2⟩
/-- what spots says, told for the region in which it is called twice -/
theorem spots_told (A : Option Addr) (n c : Nat) (l : List P11) (w1 : World) (h : RdP w1 A n c l) : ∀ W, Below w1.heap.size w1 W →
    Calls Try.prog 48 #[.slice A n c] W fun e w' => ∃ g, e = .returned (.map (some g)) ∧ W.heap.size ≤ g ∧ MapQ w' g (inB l) ∧ Below W.heap.size W w' ∧ Below w1.heap.size w1 w'
      ∧ (∀ b j, b < W.heap.size → w'.cell? ⟨b, j, none⟩ = W.cell? ⟨b, j, none⟩) ∧ (∀ b j, b < W.heap.size → w'.frozen? ⟨b, j, none⟩ = W.frozen? ⟨b, j, none⟩) ∧ W.heap.size ≤ w'.heap.size := by
  intro W hW
  refine (spots_any A n c l W (h.below hW)).mono ?_
  rintro e w' ⟨g, rfl, hg, hm, hb⟩
  refine ⟨g, rfl, hg, hm, hb, below_then hW hb, fun b j h => hb.cell (p := ⟨b, j, none⟩) h, fun b j h => ?_, hb.size⟩
  simp only [World.frozen?, hb.block b h]

theorem rdp_put {w : World} {A : Option Addr} {n c : Nat} {l : List P11} (h : RdP w A n c l) (g : Nat) (hA : ∀ a, A = some a → a.block ≠ g) (o : Obj) : RdP (w.putObj g o) A n c l := by
  obtain ⟨hl, h1, h2, hx⟩ := h
  refine ⟨hl, h1, h2, fun h0 => ?_⟩
  obtain ⟨b, o', rfl, hb, hc⟩ := hx h0
  refine ⟨b, o', rfl, by rw [World.putObj_size]; exact hb, fun k hk i v hv => ?_⟩
  refine Eq.trans (World.cell?_of_block (w := w) ?_) (hc k hk i v hv)
  exact World.putObj_heap_other (hA ⟨b, o', none⟩ rfl)

set_option maxHeartbeats 12800000 in
theorem bjoin_any (ka : Int) (va : V3) (A : Option Addr) (n c : Nat) (la : List P11) (kb : Int) (vb : V3) (B : Option Addr) (m d : Nat) (lb : List P11) (C : Option Addr) (p pc : Nat) (na : List Int) (D : Option Addr) (q qc : Nat) (nb : List Int) (w : World)
    (ha : RdP w A n c la) (hb : RdP w B m d lb) (hn : n + m ≤ 4294967000) (hka : Rd w C p pc (vals .i64 na)) (hkb : Rd w D q qc (vals .i64 nb)) :
    Calls Try.prog 20 #[cellV ka va (.slice A n c), cellV kb vb (.slice B m d), .slice C p pc, .slice D q qc] w fun e w' =>
      ∃ A' c', e = .returned (cellV 3 ⟨0, 0, ⟨#[]⟩⟩ (.slice A' (bjoin la lb na nb).length c')) ∧ RdP w' A' (bjoin la lb na nb).length c' (bjoin la lb na nb) ∧ Below w.heap.size w w' := by
  obtain ⟨F, hF⟩ : ∃ F, Hid (bjoin la lb na nb = F) := ⟨_, rfl⟩
  rw [hF.out]
  obtain ⟨w1, hw1⟩ : ∃ w1, w1 = ((w.alloc (cellRow ka va (.slice A n c))).alloc (cellRow kb vb (.slice B m d))).alloc (cellRow 0 ⟨0, 0, ⟨#[]⟩⟩ (.slice none 0 0)) := ⟨_, rfl⟩
  have hb1 : Below w.heap.size w w1 := by rw [hw1]; exact below_new (below_new (below_new (Below.refl _ _) _) _) _
  have hs1 : w1.heap.size = w.heap.size + 3 := by rw [hw1]; simp
  have h4 : w1.heap[w.heap.size]? = some (cellRow ka va (.slice A n c)) := by rw [hw1]; exact old_at _ (old_at _ (heap_alloc_new w _))
  have h5 : w1.heap[w.heap.size + 1]? = some (cellRow kb vb (.slice B m d)) := by rw [hw1]; exact old_at _ (new_at _ _ _ (by simp))
  have h8 : w1.heap[w.heap.size + 1 + 1]? = some (cellRow 0 ⟨0, 0, ⟨#[]⟩⟩ (.slice none 0 0)) := by rw [hw1]; exact new_at _ _ _ (by simp)
  have PA := Lib.hid (spots_told A n c la w1 (ha.below hb1))
  have PB := Lib.hid (spots_told B m d lb w1 (hb.below hb1))
  have l4 : w.heap.size < w1.heap.size := by omega
  have l5 : w.heap.size + 1 < w1.heap.size := by omega
  have HA := Lib.hid (ha.below hb1); have HB := Lib.hid (hb.below hb1); have HKA := Lib.hid (hka.below hb1); have HKB := Lib.hid (hkb.below hb1)
  have G := Lib.hid (show w.heap.size < w1.heap.size ∧ w.heap.size + 1 < w1.heap.size ∧ w.heap.size + 1 + 1 < w1.heap.size ∧ w.heap.size ≤ w.heap.size + 1 + 1 from by refine ⟨?_, ?_, ?_, ?_⟩ <;> omega)
  have HB1 := Lib.hid hb1; have H4 := Lib.hid h4; have H5 := Lib.hid h5; have H8 := Lib.hid h8
  have HNM := Lib.hid hn
  have K : Hid (∀ W, Below w1.heap.size w1 W → Below w1.heap.size w1 W ∧ W.cell? ⟨w.heap.size, 4, none⟩ = some (.slice A n c) ∧ W.cell? ⟨w.heap.size + 1, 4, none⟩ = some (.slice B m d)) := by
    intro W hW
    obtain ⟨_, _, _, _, a4⟩ := cell_row5 h4
    obtain ⟨_, _, _, _, b4⟩ := cell_row5 h5
    exact ⟨hW, (hW.cell (p := ⟨_, 4, none⟩) l4).trans a4, (hW.cell (p := ⟨_, 4, none⟩) l5).trans b4⟩
  replace hw1 := Lib.hid hw1
  clear ha hb hka hkb h4 h5 h8 hs1 hb1 l4 l5 hn
  refine (callsIn_wide (n := 8)).1 ?_
  refine callsIn_of_wp_marks Try.func20 rfl trivial ?_ rfl
  simp only [Try.ntmps20, List.size_toArray, List.length_cons, List.length_nil, Nat.reduceAdd, Nat.reduceSub, Array.replicate_succ, Array.replicate_zero, List.push_toArray, List.append_toArray, List.nil_append, List.cons_append]
  refine wpIn_wide.2 ?_
  go_upto_region 1 with fail
  rw [show ((w.alloc (cellRow ka va (.slice A n c))).alloc (cellRow kb vb (.slice B m d))).alloc (cellRow 0 ⟨0, 0, ⟨#[]⟩⟩ (.slice none 0 0)) = w1 from hw1.out.symm]
  clear hw1
  generalize w.heap.size + 1 + 1 = g8 at H8 G ⊢
  generalize w.heap.size + 1 = g5 at H5 K G ⊢
  go_cut [9, 10] from 13 to 22 (fun u v W => ∃ g9 g10 ga gb : Nat, u = .pointer (some ⟨g9, 0, none⟩) ∧ v = .pointer (some ⟨g10, 0, none⟩) ∧ Hid (W.cell? ⟨g9, 0, none⟩ = some (.map (some ga))) ∧ Hid (W.cell? ⟨g9, 1, none⟩ = some (.slice C p pc)) ∧ Hid (W.cell? ⟨g10, 0, none⟩ = some (.map (some gb))) ∧ Hid (W.cell? ⟨g10, 1, none⟩ = some (.slice D q qc)) ∧ Hid (MapQ W ga (inB la)) ∧ Hid (MapQ W gb (inB lb)) ∧ Hid (Below w1.heap.size w1 W))
  case first =>
    have K0 := K.out _ (Below.refl _ w1)
    go_region_held3 (fun W => Below w1.heap.size w1 W ∧ W.cell? ⟨w.heap.size, 4, none⟩ = some (.slice A n c) ∧ W.cell? ⟨g5, 4, none⟩ = some (.slice B m d))
      (first
        | exact K.out _ (by go_split_ands; repeat (first | assumption | exact Below.refl _ _ | refine below_new ?_ _ | refine Below.drew ?_ | (refine Below.setCell ?_ (by first | omega | (dsimp only; omega)) _))))
      (first
        | (go_at_call_of 48 (Value.slice A n c); refine (PA.out _ (by go_split_ands; assumption)).mono ?_; rintro e wa ⟨ga, rfl, hga, hma, bba, bba1, kca, kfa, hsa⟩; have sa := bba1.size; (try have : w1.heap.size < wa.heap.size := by ((try simp at hsa); omega)); (try have : ¬ (w1.heap.size = wa.heap.size) := by ((try simp at hsa); omega)); (try have : ¬ (wa.heap.size = w1.heap.size) := by ((try simp at hsa); omega)); (try have : w1.heap.size + 1 < wa.heap.size := by ((try simp at hsa); omega)); (try have : ¬ (w1.heap.size + 1 = wa.heap.size) := by ((try simp at hsa); omega)); (try have : ¬ (wa.heap.size = w1.heap.size + 1) := by ((try simp at hsa); omega)))
        | (go_at_call_of 48 (Value.slice B m d); refine (PB.out _ (by go_split_ands; assumption)).mono ?_; rintro e wb ⟨gb, rfl, hgb, hmb, bbb, bbb1, kcb, kfb, hsb⟩; have sb := bbb1.size; (try have : wa.heap.size < wb.heap.size := by ((try simp at hsb); omega)); (try have : ¬ (wa.heap.size = wb.heap.size) := by ((try simp at hsb); omega)); (try have : ¬ (wb.heap.size = wa.heap.size) := by ((try simp at hsb); omega)); (try have : wa.heap.size + 1 < wb.heap.size := by ((try simp at hsb); omega)); (try have : ¬ (wa.heap.size + 1 = wb.heap.size) := by ((try simp at hsb); omega)); (try have : ¬ (wb.heap.size = wa.heap.size + 1) := by ((try simp at hsb); omega)); (try have : w1.heap.size < wb.heap.size := by ((try simp at hsb); omega)); (try have : ¬ (w1.heap.size = wb.heap.size) := by ((try simp at hsb); omega)); (try have : ¬ (wb.heap.size = w1.heap.size) := by ((try simp at hsb); omega)); (try have : w1.heap.size + 1 < wb.heap.size := by ((try simp at hsb); omega)); (try have : ¬ (w1.heap.size + 1 = wb.heap.size) := by ((try simp at hsb); omega)); (try have : ¬ (wb.heap.size = w1.heap.size + 1) := by ((try simp at hsb); omega))))
    all_goals
      clear K PA PB HA HB HKA HKB G HB1 H4 H5 H8 K0
      have lga := hma.lt
      have lgb := hmb.lt
      refine at_world 9 10 rfl rfl (fun g9 g10 Z => Hid (Z.cell? ⟨g9, 0, none⟩ = some (.map (some ga))) ∧ Hid (Z.cell? ⟨g9, 1, none⟩ = some (.slice C p pc)) ∧ Hid (Z.cell? ⟨g10, 0, none⟩ = some (.map (some gb))) ∧ Hid (Z.cell? ⟨g10, 1, none⟩ = some (.slice D q qc)) ∧ Hid (MapQ Z ga (inB la)) ∧ Hid (MapQ Z gb (inB lb)) ∧ Hid (Below w1.heap.size w1 Z)) ⟨?_, ?_, ?_, ?_, ?_, ?_, ?_⟩ ?_
      · show _ = _
        repeat (first
          | (with_reducible refine (World.cell?_alloc_at _ _ _ _ ?_).trans ?_ <;> (first | rfl | (simp; done)))
          | ((with_reducible refine (World.cell?_alloc_past _ _ _ ?_).trans ?_); focus (first | omega | (simp; done) | (simp; omega)))
          | with_reducible refine World.cell?_setCell_same _ _ _ (u := .map none) ?_
          | ((with_reducible refine (World.cell?_setCell_other _ _ _ _ ?_).trans ?_); focus (intro e; first | (have e2 := congrArg Addr.block e; dsimp only at e2; omega) | (have e2 := congrArg Addr.off e; dsimp only at e2; omega)))
          | ((with_reducible refine (kcb _ _ ?_).trans ?_); focus (first | omega | (simp; done) | (simp; omega)))
          | ((with_reducible refine (kca _ _ ?_).trans ?_); focus (first | omega | (simp; done) | (simp; omega)))
          | with_reducible refine (cell_drew_ _ _).trans ?_)
      · show _ = _
        repeat (first
          | (with_reducible refine (World.cell?_alloc_at _ _ _ _ ?_).trans ?_ <;> (first | rfl | (simp; done)))
          | ((with_reducible refine (World.cell?_alloc_past _ _ _ ?_).trans ?_); focus (first | omega | (simp; done) | (simp; omega)))
          | with_reducible refine World.cell?_setCell_same _ _ _ (u := .slice none 0 0) ?_
          | ((with_reducible refine (World.cell?_setCell_other _ _ _ _ ?_).trans ?_); focus (intro e; first | (have e2 := congrArg Addr.block e; dsimp only at e2; omega) | (have e2 := congrArg Addr.off e; dsimp only at e2; omega)))
          | ((with_reducible refine (kcb _ _ ?_).trans ?_); focus (first | omega | (simp; done) | (simp; omega)))
          | ((with_reducible refine (kca _ _ ?_).trans ?_); focus (first | omega | (simp; done) | (simp; omega)))
          | with_reducible refine (cell_drew_ _ _).trans ?_)
      · show _ = _
        repeat (first
          | (with_reducible refine (World.cell?_alloc_at _ _ _ _ ?_).trans ?_ <;> (first | rfl | (simp; done)))
          | ((with_reducible refine (World.cell?_alloc_past _ _ _ ?_).trans ?_); focus (first | omega | (simp; done) | (simp; omega)))
          | with_reducible refine World.cell?_setCell_same _ _ _ (u := .map none) ?_
          | ((with_reducible refine (World.cell?_setCell_other _ _ _ _ ?_).trans ?_); focus (intro e; first | (have e2 := congrArg Addr.block e; dsimp only at e2; omega) | (have e2 := congrArg Addr.off e; dsimp only at e2; omega)))
          | ((with_reducible refine (kcb _ _ ?_).trans ?_); focus (first | omega | (simp; done) | (simp; omega)))
          | ((with_reducible refine (kca _ _ ?_).trans ?_); focus (first | omega | (simp; done) | (simp; omega)))
          | with_reducible refine (cell_drew_ _ _).trans ?_)
      · show _ = _
        repeat (first
          | (with_reducible refine (World.cell?_alloc_at _ _ _ _ ?_).trans ?_ <;> (first | rfl | (simp; done)))
          | ((with_reducible refine (World.cell?_alloc_past _ _ _ ?_).trans ?_); focus (first | omega | (simp; done) | (simp; omega)))
          | with_reducible refine World.cell?_setCell_same _ _ _ (u := .slice none 0 0) ?_
          | ((with_reducible refine (World.cell?_setCell_other _ _ _ _ ?_).trans ?_); focus (intro e; first | (have e2 := congrArg Addr.block e; dsimp only at e2; omega) | (have e2 := congrArg Addr.off e; dsimp only at e2; omega)))
          | ((with_reducible refine (kcb _ _ ?_).trans ?_); focus (first | omega | (simp; done) | (simp; omega)))
          | ((with_reducible refine (kca _ _ ?_).trans ?_); focus (first | omega | (simp; done) | (simp; omega)))
          | with_reducible refine (cell_drew_ _ _).trans ?_)
      · show MapQ _ _ _
        repeat (first | with_reducible exact hma | with_reducible refine MapQ.alloc ?_ _ | with_reducible refine MapQ.drew_ ?_ | with_reducible refine MapQ.below ?_ bbb | ((with_reducible refine MapQ.setCell ?_ _ _ _ ?_); rotate_left; (first | omega | (simp only [World.size_alloc, World.size_drew] at hga hsb; omega) | (simp only [World.size_alloc] at hga; omega) | (simp only [World.size_alloc] at hsb; omega))))
      · show MapQ _ _ _
        repeat (first | with_reducible exact hmb | with_reducible refine MapQ.alloc ?_ _ | with_reducible refine MapQ.drew_ ?_ | ((with_reducible refine MapQ.setCell ?_ _ _ _ ?_); rotate_left; (first | omega | (simp only [World.size_alloc] at hgb; omega))))
      · show Below _ _ _
        go_split_ands
        with_reducible assumption
      · clear kca kfa kcb kfb bba bba1 bbb bbb1 hma hmb hga hgb hsa hsb sa sb lga lgb
        rintro Z ⟨z1, z2, z3, z4, z5, z6, z7⟩
        go_wp2_with fail
        go_meet
        exact ⟨_, _, ga, gb, rfl, rfl, z1, z2, z3, z4, z5, z6, z7⟩
  case rest =>
    clear PA PB
    obtain ⟨g9, g10, ga, gb, rfl, rfl, m9, n9, m10, n10, mA, mB, hbc⟩ := hcut
    obtain ⟨_, a4, b4⟩ := K.out wc hbc.out
    have lm9 := World.block_lt_of_cell? _ _ m9.out
    have hsw := hbc.out.size
    have hlA := Lib.hid HA.out.len; have hlB := Lib.hid HB.out.len
    obtain ⟨w2, hw2⟩ : ∃ w2, w2 = (wc.alloc (.cells #[.slice A n c] 24)).alloc (.cells #[.func (.func 51) #[copyV gb D q qc] #[]] 60) := ⟨_, rfl⟩
    have b2 : Below wc.heap.size wc w2 := by rw [hw2]; exact below_new (below_new (Below.refl _ _) _) _
    have hit := itp_new A n c (.func (.func 51) #[copyV gb D q qc] #[]) wc
    rw [← hw2] at hit
    obtain ⟨L1, hL1⟩ : ∃ L1, Hid (la.filter (keepsB lb nb) = L1) := ⟨_, rfl⟩
    obtain ⟨L2, hL2⟩ : ∃ L2, Hid (lb.filter (lacksB la na) = L2) := ⟨_, rfl⟩
    have CO := collect_any wc.heap.size (wc.heap.size + 1) A n c la 51 (copyV gb D q qc) (keepsB lb nb) wc w2 Try.egKeepsB (HA.out.below hbc.out)
      (fun W hW x => keeps_any gb (inB lb) nb D q qc x W (mB.out.below hW) ((HKB.out.below hbc.out).below hW)) hit (by have := HNM.out; omega)
    rw [hL1.out] at CO
    replace CO := Lib.hid CO
    have TH := Lib.hid (fun (A : Option Addr) (n c : Nat) (g : Nat) (r : Value) (W : World) => those_any A n c g r W)
    have hl1 : L1.length ≤ n := by rw [← hL1.out, ← hlA.out]; exact List.length_filter_le _ _
    have hl2 : L2.length ≤ m := by rw [← hL2.out, ← hlB.out]; exact List.length_filter_le _ _
    have HF : Hid (F = isort ltB (L1 ++ L2)) := by show _ = _; rw [← hF.out, bjoin, hL1.out, hL2.out]
    have HB2 := Lib.hid (below_then hbc.out b2)
    have M2 := Lib.hid (mA.out.below b2)
    have HBw : Hid (Below wc.heap.size wc w2) := b2
    replace hw2 := Lib.hid hw2
    clear hit b2 mA mB
    have e10 := m10.out; have f10 := n10.out
    go_wp2_with fail
    refine (TH.out _ _ _ _ _ _).mono ?_
    rintro e w2' ⟨rfl, hw2'⟩
    rw [← hw2.out] at hw2'
    subst hw2'
    obtain ⟨w2, rfl⟩ : ∃ x, x = w2' := ⟨_, rfl⟩
    clear hw2
    go_wp2_with fail
    refine CO.out.mono ?_
    rintro e w3 ⟨v1, rfl, hown3, b3⟩
    obtain ⟨A1, c1, rfl, _⟩ := RdG.own_ p11len (by omega) hown3
    have HB3 := Lib.hid b3
    have HO3 := Lib.hid hown3
    obtain ⟨w4, hw4⟩ : ∃ w4, w4 = w3.alloc (.cells #[.slice A1 L1.length c1] 24) := ⟨_, rfl⟩
    have b4' : Below w2.heap.size w2 w4 := by rw [hw4]; exact b3.trans ((below_new (Below.refl _ _) _).mono b3.size)
    have HB4 := Lib.hid b4'
    have HX11 : Hid (Boxed w4 w3.heap.size 24 (.slice A1 L1.length c1)) := by rw [hw4]; exact Boxed.new _ _ _
    have HO4 : Hid (w4.ownsRow w2.heap.size 30 11 (.slice A1 L1.length c1) L1.length (L1.flatMap P11.cells)) := by rw [hw4]; exact hown3.alloc _
    replace hw4 := Lib.hid hw4
    have hs34 : Hid (w4.heap.size = w3.heap.size + 1) := by rw [hw4.out]; show _ = _; simp
    clear CO hown3 b3 b4' a4 b4 e10 f10
    obtain ⟨_, _, b4⟩ := K.out w4 (below_then HB2.out HB4.out)
    have e9 := ((below_then HBw.out HB4.out).cell (p := ⟨g9, 0, none⟩) (World.block_lt_of_cell? _ _ m9.out)).trans m9.out
    have f9 := ((below_then HBw.out HB4.out).cell (p := ⟨g9, 1, none⟩) (World.block_lt_of_cell? _ _ n9.out)).trans n9.out
    go_upto_region 3 with fail
    rw [show w3.alloc (Obj.cells #[.slice A1 L1.length c1] 24) = w4 from hw4.out.symm]
    clear hw4
    obtain ⟨w5, hw5⟩ : ∃ w5, w5 = (w4.alloc (.cells #[.slice B m d] 24)).alloc (.cells #[.func (.func 52) #[copyV ga C p pc] #[]] 60) := ⟨_, rfl⟩
    have hit5 := itp_new B m d (.func (.func 52) #[copyV ga C p pc] #[]) w4
    rw [← hw5] at hit5
    have b5 : Below w4.heap.size w4 w5 := by rw [hw5]; exact below_new (below_new (Below.refl _ _) _) _
    have IT : Hid (ItP w4.heap.size (w4.heap.size + 1) B m d (.func (.func 52) #[copyV ga C p pc] #[]) w2 w5) := ⟨hit5.b1, hit5.b2, below_then HB4.out b5⟩
    have HB5 := Lib.hid b5
    have HX5 : Hid (Boxed w5 w3.heap.size 24 (.slice A1 L1.length c1)) := (b5.block _ HX11.out.lt).trans HX11.out
    have HO5 := Lib.hid (own_below HO4.out b5)
    replace hw5 := Lib.hid hw5
    clear hit5 b5
    go_wp2_with fail
    refine (TH.out _ _ _ _ _ _).mono ?_
    rintro e w5' ⟨rfl, hw5'⟩
    rw [← hw5.out] at hw5'
    subst hw5'
    obtain ⟨w5, rfl⟩ : ∃ x, x = w5' := ⟨_, rfl⟩
    clear hw5 TH e9 f9 b4
    have hseq := those_stops 7 (by omega) w4.heap.size (w4.heap.size + 1) B m d lb 52 (copyV ga C p pc) (lacksB la na) w2 w5 Try.egLacksB (HB.out.below HB2.out)
      (fun W hW x => lacks_any ga (inB la) na C p pc x W (M2.out.below hW) ((HKA.out.below HB2.out).below hW)) IT.out
    rw [hL2.out] at hseq
    go_wp2_with fail
    have hs25 : w2.heap.size ≤ w5.heap.size := (below_then HB4.out HB5.out).size
    have hs23 : w2.heap.size ≤ w3.heap.size := HB3.out.size
    have hg11 : w3.heap.size < w4.heap.size := by have := hs34.out; omega
    refine (wpIn_wide (n := 8)).1 ?_
    refine wpIn_rangeFunc_ownH rfl (by omega) (gf := 89) (lb := #[.pointer (some ⟨w4.heap.size, 0, none⟩), .pointer (some ⟨w4.heap.size + 1, 0, none⟩)]) rfl trivial Try.egThose1 hseq (fun h1 h2 h => h2 (h1 h)) (fun W l o o' hl ho hc hw h => ItP.put hs25 W l o o' hl ho hc hw h) (Below.refl _ _) (fun _ => rfl)
      (fun pre W => (∃ v, Boxed W w3.heap.size 24 v ∧ W.ownsRow w2.heap.size 30 11 v (L1 ++ pre).length ((L1 ++ pre).flatMap P11.cells) ∧ True) ∧ Below w2.heap.size w2 W)
      (fun _ _ _ => False)
      (OwnFrom.and (Own.from (holdsRow_own w2.heap.size w3.heap.size 24 30 11 (fun pre : List P11 => (L1 ++ pre).length) (fun pre => (L1 ++ pre).flatMap P11.cells) (fun _ _ => True)) _) (ownFrom_below (Nat.le_refl _) hs25))
      (fun _ _ _ _ _ hs _ _ => hs)
      ⟨⟨_, HX5.out, by rw [List.append_nil]; exact HO5.out, trivial⟩, below_then HB4.out HB5.out⟩
      (fun x a' W => ∃ Bx, w3.heap.size < Bx ∧ W.heap[Bx]? = some (partCells x) ∧ a' = { tmps := #[cellV ka va (.slice A n c), cellV kb vb (.slice B m d), .slice C p pc, .slice D q qc, .pointer (some ⟨w.heap.size, 0, none⟩), .pointer (some ⟨g5, 0, none⟩), undef, undef, .pointer (some ⟨g8, 0, none⟩), .pointer (some ⟨g9, 0, none⟩), .pointer (some ⟨g10, 0, none⟩), .pointer (some ⟨w3.heap.size, 0, none⟩), .pointer (some ⟨Bx, 0, none⟩), u13, u14, u15, u16, u17, u18, u19, u20, u21, u22, .pointer (some ⟨w.heap.size, 4, none⟩), .slice A n c, .agg #[.map (some gb), .slice D q qc], .func (.func 51) #[.agg #[.map (some gb), .slice D q qc]] #[], .func (.func 89) #[] #[.pointer (some ⟨wc.heap.size, 0, none⟩), .pointer (some ⟨wc.heap.size + 1, 0, none⟩)], .slice A1 L1.length c1, .pointer (some ⟨g5, 4, none⟩), .slice B m d, .agg #[.map (some ga), .slice C p pc], .func (.func 52) #[.agg #[.map (some ga), .slice C p pc]] #[], .func (.func 89) #[] #[.pointer (some ⟨w4.heap.size, 0, none⟩), .pointer (some ⟨w4.heap.size + 1, 0, none⟩)], x.agg, undef, undef, undef, undef, undef, undef, undef, undef], defers := [] })
      (fun x a' => fun _ X Y row hs hg hrow => by
        obtain ⟨Bx, h1, h2, h3⟩ := hs
        exact ⟨Bx, h1, cells_own (β := Unit) w5.heap.size Bx _ rfl () X Y row h2 hg hrow, h3⟩) ?assign ?body ?done ?stop
    case assign =>
      rintro l pre x W K ⟨⟨v, hv, hrow, _⟩, hB⟩ hK
      clear hseq
      gi_wp2_with fail
      refine hK _ _ ((KeepsOthers.alloc W (partCells x)).from _) (fun h => h.below (below_new (Below.refl _ _) _)) ⟨⟨v, hv.alloc _, hrow.alloc _, trivial⟩, hB.alloc hB.size _⟩ ⟨W.heap.size, hv.lt, heap_alloc_new W _, rfl⟩
    case body =>
      rintro l pre x a' W hl0 hl1 ⟨⟨v, hv, hrow, _⟩, hB⟩ ⟨Bx, hBx, hx, rfl⟩ hlt
      have hc := hv.cell
      obtain ⟨m0, m1, m2, m3, m4, m5, m6, m7, m8, m9, m10⟩ := part_row hx
      have hlen : (L1 ++ pre).length < 4294967296 := by rw [List.length_append]; have := HNM.out; omega
      clear hseq
      obtain ⟨kk, hkk⟩ : ∃ kk, Hid ((L1 ++ pre).length = kk) := ⟨_, rfl⟩
      rw [hkk.out] at hrow hlen
      gi_wp2_with (gi_at_builtin; refine wpListIn_pushP rfl _ _ rfl w2.heap.size v kk (L1 ++ pre) x _ rfl rfl rfl hrow hlen hB hB.size ?_; intro v' w7 hown' hgrow B5 hs5; obtain ⟨g', cap', rfl⟩ := ownsRow_succ hown'; obtain ⟨hv1, hv2, hr2, hk2, hb2⟩ := hv.appended (by decide) hrow hB.size hs23 hown' hgrow; have hc1 := hv1.cell; have hf1 := hv1.frozen)
      refine ⟨hk2.from _, fun h => ?_, ⟨⟨_, hv2, ?_, trivial⟩, hB.trans hb2⟩⟩
      · have h1 := (h.below (below_new (Below.refl _ _) (partCells x))).grown hgrow (h.b1.not_row (by decide) hrow) (h.b2.not_row (by decide) hrow) (fun k hk => (hrow.lt k hk).1)
        exact h1.grown (grownBy_setCell' _ _ _) (fun e => by injection e with e; omega) (fun e => by injection e with e; omega) (fun k e => by injection e with e; omega)
      · have hl2 : (L1 ++ (pre ++ [x])).length = kk + 1 := by rw [← List.append_assoc, List.length_append, hkk.out]; rfl
        rw [hl2, ← List.append_assoc]; exact hr2
    case done =>
      rintro Dd ys W hD hys ⟨⟨v, hv, hrow, _⟩, hB⟩ hK
      subst hys
      clear hseq
      obtain ⟨N, hN⟩ : ∃ N, Hid ((L1 ++ ys).length = N) := ⟨_, rfl⟩
      have hNl : N ≤ 4294967296 := by rw [← hN.out, List.length_append]; have := HNM.out; omega
      rw [hN.out] at hrow
      obtain ⟨A6, c6, rfl, _⟩ := RdG.own_ p11len (by omega) hrow
      have hc := hv.cell
      have SO := Lib.hid (sortB_any w2.heap.size N (.slice A6 N c6) (L1 ++ ys) W w2 hNl hrow hB)
      have hne1 := hv.not_row (by decide) hrow
      have hne2 : some Dd ≠ (Value.slice A6 N c6).ownBlock := fun e => by
        rcases hrow.2 with ⟨h1, _⟩ | ⟨g', cap', cur', h1, _, h2, _⟩
        · injection h1 with h3; subst h3; simp [Value.ownBlock] at e
        · injection h1 with h3; subst h3
          obtain rfl : Dd = g' := by simpa [Value.ownBlock] using e
          rw [hK] at h2; cases h2
      have HV := Lib.hid hv; have HK := Lib.hid hK; have HOW := Lib.hid hrow
      have HN1 := Lib.hid hne1; have HN2 := Lib.hid hne2; have HD := Lib.hid hD
      clear hv hK hrow hne1 hne2 hB hD
      go_wp2_with fail
      refine SO.out.mono ?_
      rintro e w8 ⟨rfl, b8, s8, k8, A7, c7, hv7, hrd8⟩
      injection hv7 with e1 _ e3
      subst e1; subst e3
      have HV8 : Boxed w8 w3.heap.size 24 (.slice A6 N c6) := (k8 _ HV.out.lt HN1.out).trans HV.out
      have HK8 : Hid (w8.heap[Dd]? = some (.deferred (some []))) := (k8 _ (Array.getElem?_eq_some_iff.1 HK.out).1 HN2.out).trans HK.out
      have hc8 := HV8.cell
      have g1 := G.out; have s2 := hbc.out.size; have s3 := HBw.out.size; have s5 := HD.out
      have q8 : w8.heap[g8]? = some (cellRow 0 ⟨0, 0, ⟨#[]⟩⟩ (.slice none 0 0)) := by
        rw [b8.block g8 (by omega), HB2.out.block g8 g1.2.2.1]; exact H8.out
      obtain ⟨r0, r1, r2, r3, r4⟩ := cell_row5 q8
      have f0 := frozen_row q8
      have HQ8 := Lib.hid q8; have HRD8 := Lib.hid hrd8; have HB8 := Lib.hid b8
      have hgd : Hid (Dd ≠ g8) := by show Dd ≠ g8; omega
      have hA6 : Hid (∀ a, A6 = some a → a.block ≠ g8) := fun a ha => by
        have h1 := (HOW.out.lt a.block (by rw [ha]; rfl)).1
        omega
      clear SO q8 hrd8 b8 k8 HV8 hc g1 s2 s3 s5
      go_wp2_with fail
      have K8 := row_other (row_other (row_other (row_other (row_other HK8.out hgd.out 0 (.int .i64 3)) hgd.out 1 (.int .i64 0)) hgd.out 2 (.int .i64 0)) hgd.out 3 (.string ⟨#[]⟩)) hgd.out 4 (.slice A6 N c6)
      refine ⟨by simp, .inl ⟨_, _, rfl, run_takeDeferred K8, ?_⟩⟩
      have hFN : F.length = N := by rw [HF.out, isort_len, hN.out]
      obtain ⟨w9, hw9⟩ : ∃ w9, w9 = ((((w8.setCell ⟨g8, 0, none⟩ (.int .i64 3)).setCell ⟨g8, 1, none⟩ (.int .i64 0)).setCell ⟨g8, 2, none⟩ (.int .i64 0)).setCell ⟨g8, 3, none⟩ (.string ⟨#[]⟩)).setCell ⟨g8, 4, none⟩ (.slice A6 N c6) := ⟨_, rfl⟩
      rw [← hw9] at K8 ⊢
      have Q9 : w9.heap[g8]? = some (cellRow 3 ⟨0, 0, ⟨#[]⟩⟩ (.slice A6 N c6)) := by rw [hw9]; exact set5 HQ8.out
      have RD9 : RdP w9 A6 N c6 F := by rw [hw9, HF.out]; exact rd_set5 HRD8.out _ hA6.out _ _ _ _ _
      have BW9 : Below w.heap.size w w9 := by
        rw [hw9]
        exact below_put5 (HB1.out.trans ((below_then HB2.out HB8.out).mono (by have := G.out; omega))) G.out.2.2.2 _ _ _ _ _
      have hsz : w.heap.size ≤ Dd := by have h1 := HD.out; have h2 := HB1.out.size; have h3 := HB2.out.size; omega
      refine ⟨_, results_cell_row rfl _ _ g8 26 _ (0, 0) _ rfl ((World.putObj_heap_other (Ne.symm hgd.out)).trans Q9) Try.underlying26 rfl (by kernel_rfl), ?_⟩
      rw [hFN]
      refine ⟨A6, c6, rfl, rdp_put RD9 Dd (fun a ha e => HN2.out (by rw [ha, ← e]; rfl)) _, BW9.grown (grownBy_putObj' _ _ _) BW9.size (fun k e => by injection e with e; omega)⟩
    case stop =>
      rintro D c pre W _ _ h _
      exact h.elim
end Go.Proofs.Ytomdbjmbkfdcmaa

