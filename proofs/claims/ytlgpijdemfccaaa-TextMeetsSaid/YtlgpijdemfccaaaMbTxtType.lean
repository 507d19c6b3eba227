/- Layer 10: text.Type. -/
import Derived.Test.YtlgpijdemfccaaaMbTxtTypeM
import Derived.Test.YtlgpijdemfccaaaMbTxtErase
import Derived.Deep.RegionHeld3
import Derived.Deep.CutBlock
namespace Go.Proofs.Ytlgpijdemfccaaa
set_option maxRecDepth 100000
open Go.RowKit

theorem dotOf_is (s : S3) (w : World) : Calls Try.prog 30 #[s.agg] w fun e w' => e = .returned (dotS s).agg ∧ w' = (w.alloc (stampRow s)).alloc (dotRowT (dotS s)) := by
  go_enter Try.func30, Try.ntmps30
  go_wp2
  refine bodyPost_ret (v := (dotS s).agg) (results_cell_row rfl _ _ (w.heap.size + 1) 40 _ (0, 0) _ rfl (heap_at (by simp)) Try.underlying40 rfl (by kernel_rfl)) rfl ⟨rfl, rfl⟩

theorem use_row {w w' : World} {g : Nat} {o : Obj} {C : Prop} (bb : Below w.heap.size w w') (h : w.heap[g]? = some o) (k : w'.heap[g]? = some o → C) : C := k (row_below h bb)

theorem rdp_cell {w : World} {A : Option Addr} {n c : Nat} {l : List P11} (h : RdP w A n c l) (g : Nat) (hA : ∀ a, A = some a → a.block ≠ g) (j : Nat) (x : Value) : RdP (w.setCell ⟨g, j, none⟩ x) A n c l := by
  obtain ⟨hl, h1, h2, hx⟩ := h
  refine ⟨hl, h1, h2, fun h0 => ?_⟩
  obtain ⟨b, o, rfl, hb, hc⟩ := hx h0
  refine ⟨b, o, rfl, by rw [setCell_size]; exact hb, fun q hq i v hv => ?_⟩
  exact (World.cell?_of_block (a := ⟨b, o + q * 11 + i, none⟩) (setCell_other (show b ≠ g from hA _ rfl) j x)).trans (hc q hq i v hv)

/-- how typing stands -/
structure TypAt (g5 g7 g10 g12 g14 : Nat) (k : Int) (v : V3) (sl : Value) (who : S3) (X Y : N3) (B : Nat) (s : Value) (M : List P11) (w W : World) : Prop where
  r5 : W.heap[g5]? = some (cellRow k v sl)
  r7 : W.heap[g7]? = some (stampRow who)
  r10 : W.heap[g10]? = some (cellRow 0 ⟨0, 0, ⟨#[]⟩⟩ nilS)
  r12 : W.heap[g12]? = some (nameRow X)
  r14 : W.heap[g14]? = some (nameRow Y)
  own : W.ownsRow B 45 11 s M.length (M.flatMap P11.cells)
  bel : Below w.heap.size w W
  sz : B ≤ W.heap.size
section
variable {g5 g7 g10 g12 g14 : Nat} {k : Int} {v : V3} {sl : Value} {who : S3} {X Y : N3} {B : Nat} {s : Value} {M : List P11} {w W W' : World}
theorem TypAt.below (h : TypAt g5 g7 g10 g12 g14 k v sl who X Y B s M w W) (hb : Below W.heap.size W W') : TypAt g5 g7 g10 g12 g14 k v sl who X Y B s M w W' :=
  ⟨row_below h.r5 hb, row_below h.r7 hb, row_below h.r10 hb, row_below h.r12 hb, row_below h.r14 hb, own_below h.own hb, below_then h.bel hb, Nat.le_trans h.sz hb.size⟩
theorem TypAt.push (h : TypAt g5 g7 g10 g12 g14 k v sl who X Y B s M w W) (h5 : g5 < B) (h7 : g7 < B) (h10 : g10 < B) (h12 : g12 < B) (h14 : g14 < B) (hB : w.heap.size ≤ B) {x : P11} {s' : Value}
    (hown : W'.ownsRow B 45 11 s' (M.length + 1) ((M ++ [x]).flatMap P11.cells)) (hgr : W.grownBy W' s.ownBlock) : TypAt g5 g7 g10 g12 g14 k v sl who X Y B s' (M ++ [x]) w W' := by
  have hk : ∀ g, g < B → W'.heap[g]? = W.heap[g]? := fun g hg => hgr.block g (Nat.lt_of_lt_of_le hg h.sz) (fun e => by have := (h.own.lt g e.symm).1; omega)
  have hl : (M ++ [x]).length = M.length + 1 := by simp
  refine ⟨(hk _ h5).trans h.r5, (hk _ h7).trans h.r7, (hk _ h10).trans h.r10, (hk _ h12).trans h.r12, (hk _ h14).trans h.r14, by rw [hl]; exact hown, h.bel.grown hgr (Nat.le_trans hB h.sz) (fun k hk => Nat.le_trans hB (h.own.lt k hk).1), Nat.le_trans h.sz hgr.size⟩
theorem TypAt.set12 (h : TypAt g5 g7 g10 g12 g14 k v sl who X Y B s M w W) (h12 : g12 < B) (hB : w.heap.size ≤ g12) (hne : g12 ≠ g5 ∧ g12 ≠ g7 ∧ g12 ≠ g10 ∧ g12 ≠ g14) (Z : N3) :
    TypAt g5 g7 g10 g12 g14 k v sl who Z Y B s M w (((W.setCell ⟨g12, 0, none⟩ (.int .i64 Z.d.d)).setCell ⟨g12, 1, none⟩ (.int .i64 Z.d.s)).setCell ⟨g12, 2, none⟩ (.int .i64 Z.i)) := by
  have hk : ∀ g, g ≠ g12 → (((W.setCell ⟨g12, 0, none⟩ (.int .i64 Z.d.d)).setCell ⟨g12, 1, none⟩ (.int .i64 Z.d.s)).setCell ⟨g12, 2, none⟩ (.int .i64 Z.i)).heap[g]? = W.heap[g]? := fun g hg => by
    rw [setCell_other hg, setCell_other hg, setCell_other hg]
  refine ⟨(hk _ (Ne.symm hne.1)).trans h.r5, (hk _ (Ne.symm hne.2.1)).trans h.r7, (hk _ (Ne.symm hne.2.2.1)).trans h.r10, set3 h.r12, (hk _ (Ne.symm hne.2.2.2)).trans h.r14, own_block h.own (fun b hb => hk b (fun e => by have := (h.own.lt b hb).1; omega)), below_set3 h.bel hB, ?_⟩
  rw [setCell_size, setCell_size, setCell_size]; exact h.sz
theorem TypAt.set14 (h : TypAt g5 g7 g10 g12 g14 k v sl who X Y B s M w W) (h14 : g14 < B) (hB : w.heap.size ≤ g14) (hne : g14 ≠ g5 ∧ g14 ≠ g7 ∧ g14 ≠ g10 ∧ g14 ≠ g12) (i : Int) :
    TypAt g5 g7 g10 g12 g14 k v sl who X ⟨Y.d, i⟩ B s M w (W.setCell ⟨g14, 2, none⟩ (.int .i64 i)) := by
  have hk : ∀ g, g ≠ g14 → (W.setCell ⟨g14, 2, none⟩ (.int .i64 i)).heap[g]? = W.heap[g]? := fun g hg => setCell_other hg _ _
  refine ⟨(hk _ (Ne.symm hne.1)).trans h.r5, (hk _ (Ne.symm hne.2.1)).trans h.r7, (hk _ (Ne.symm hne.2.2.1)).trans h.r10, (hk _ (Ne.symm hne.2.2.2)).trans h.r12, by rw [set_row h.r14 2]; rfl, own_block h.own (fun b hb => hk b (fun e => by have := (h.own.lt b hb).1; omega)), h.bel.setCell hB _, ?_⟩
  rw [setCell_size]; exact h.sz
end

/-- what Type answers -/
def typeE (k : Int) (v : V3) (l : List P11) (s : ByteArray) (who : S3) (N : N3) : Int := mayT k v l s.size who N
def typeL (l : List P11) (s : ByteArray) (who : S3) (N : N3) : List P11 := ordT (addL l (sbytes s) who N)

set_option maxHeartbeats 12800000 in
theorem typeT_any (k : Int) (v : V3) (A : Option Addr) (n c : Nat) (l : List P11) (s : ByteArray) (who : S3) (d : D2) (i : Int) (w : World) (h : RdP w A n c l) (hn : n ≤ 4294967000) (hs : s.size ≤ 140737488355328) :
    Calls Try.prog 20 #[cellV k v (.slice A n c), .string s, who.agg, d.agg, .int .i64 i] w fun e w' =>
      Below w.heap.size w w' ∧ ((typeE k v l s who ⟨d, i⟩ ≠ 0 ∧ e = .returned (.tuple #[cellV 0 zeroT nilS, .int .i64 (typeE k v l s who ⟨d, i⟩)])) ∨
        (typeE k v l s who ⟨d, i⟩ = 0 ∧ ∃ A' c', e = .returned (.tuple #[cellV k v (.slice A' (n + s.size) c'), .int .i64 0]) ∧ RdP w' A' (n + s.size) c' (typeL l s who ⟨d, i⟩) ∧ ∀ a, A' = some a → w.heap.size ≤ a.block)) := by
  obtain ⟨w1, hw1⟩ : ∃ w1, w1 = (((w.alloc (cellRow k v (.slice A n c))).alloc (stampRow who)).alloc (dotRowT d)).alloc (cellRow 0 ⟨0, 0, ⟨#[]⟩⟩ nilS) := ⟨_, rfl⟩
  obtain ⟨g5, hg5⟩ : ∃ g5, g5 = w.heap.size := ⟨_, rfl⟩
  obtain ⟨g7, hg7⟩ : ∃ g7, g7 = w.heap.size + 1 := ⟨_, rfl⟩
  obtain ⟨g8, hg8⟩ : ∃ g8, g8 = w.heap.size + 1 + 1 := ⟨_, rfl⟩
  obtain ⟨g10, hg10⟩ : ∃ g10, g10 = w.heap.size + 1 + 1 + 1 := ⟨_, rfl⟩
  have hb1 : Below w.heap.size w w1 := by rw [hw1]; exact below_new (below_new (below_new (below_new (Below.refl _ _) _) _) _) _
  have r5 : w1.heap[g5]? = some (cellRow k v (.slice A n c)) := by rw [hw1, hg5]; exact heap_past (by simp only [World.size_alloc]; omega) (heap_past (by simp only [World.size_alloc]; omega) (heap_past (by simp) (heap_alloc_new w _)))
  have r7 : w1.heap[g7]? = some (stampRow who) := by rw [hw1, hg7]; exact heap_past (by simp only [World.size_alloc]; omega) (heap_past (by simp) (heap_at (by simp)))
  have r8 : w1.heap[g8]? = some (dotRowT d) := by rw [hw1, hg8]; exact heap_past (by simp) (heap_at (by simp))
  have r10 : w1.heap[g10]? = some (cellRow 0 ⟨0, 0, ⟨#[]⟩⟩ nilS) := by rw [hw1, hg10]; exact heap_at (by simp)
  have hsz : Hid (g5 < w1.heap.size ∧ g7 < w1.heap.size ∧ g10 < w1.heap.size ∧ g5 ≠ g10 ∧ g7 ≠ g5 ∧ g7 ≠ g10 ∧ w.heap.size ≤ g5 ∧ w.heap.size ≤ g10 ∧ w.heap.size ≤ w1.heap.size) := ⟨(Array.getElem?_eq_some_iff.1 r5).1, (Array.getElem?_eq_some_iff.1 r7).1, (Array.getElem?_eq_some_iff.1 r10).1, by omega, by omega, by omega, by omega, by omega, hb1.size⟩
  have HRD := Lib.hid (h.below hb1); have HL := Lib.hid h.len; have HB1 := Lib.hid hb1; have R5 := Lib.hid r5; have R7 := Lib.hid r7; have R10 := Lib.hid r10
  have hle := h.le
  have HN := Lib.hid hn
  obtain ⟨N, hN⟩ : ∃ N : N3, Hid (N = ⟨d, i⟩) := ⟨_, rfl⟩
  rw [← hN.out]
  obtain ⟨F, hF⟩ : ∃ F, Hid (typeE k v l s who N = F) := ⟨_, rfl⟩
  obtain ⟨O, hO⟩ : ∃ O, Hid (typeL l s who N = O) := ⟨_, rfl⟩
  rw [hF.out, hO.out]
  obtain ⟨d0, d1⟩ := dot_rowT r8
  replace hw1 := Lib.hid hw1
  clear h hb1 r5 r7 r8 r10 hn
  go_enter Try.func20, Try.ntmps20
  go_upto_region 1 with fail
  rw [show (((w.alloc (cellRow k v (.slice A n c))).alloc (stampRow who)).alloc (dotRowT d)).alloc (cellRow 0 ⟨0, 0, ⟨#[]⟩⟩ nilS) = w1 from hw1.out.symm, show w.heap.size + 1 + 1 + 1 = g10 from hg10.symm, show w.heap.size + 1 + 1 = g8 from hg8.symm, show w.heap.size + 1 = g7 from hg7.symm, ← hg5]
  clear hw1
  replace hg5 := Lib.hid hg5; replace hg7 := Lib.hid hg7; replace hg8 := Lib.hid hg8; replace hg10 := Lib.hid hg10
  obtain ⟨w2, hw2⟩ : ∃ w2, w2 = w1.alloc (nameRow N) := ⟨_, rfl⟩
  obtain ⟨g12, hg12⟩ : ∃ g12, g12 = w1.heap.size := ⟨_, rfl⟩
  have b2 : Below w1.heap.size w1 w2 := by rw [hw2]; exact below_new (Below.refl _ _) _
  have r12 : w2.heap[g12]? = some (nameRow N) := by rw [hw2, hg12]; exact heap_alloc_new w1 _
  have HB2 := Lib.hid (below_then HB1.out b2); have HRD2 := Lib.hid (HRD.out.below b2)
  have R52 := Lib.hid (row_below R5.out b2); have R72 := Lib.hid (row_below R7.out b2); have R102 := Lib.hid (row_below R10.out b2); have R12 := Lib.hid r12
  have hsz2 : Hid (g5 < g12 ∧ g7 < g12 ∧ g10 < g12 ∧ g12 < w2.heap.size ∧ w.heap.size ≤ g12) := by
    obtain ⟨q1, q2, q3, q4, q5, q6, q7, q8, q9⟩ := hsz.out
    exact ⟨by omega, by omega, by omega, (Array.getElem?_eq_some_iff.1 r12).1, by omega⟩
  obtain ⟨c0, c1, c2, c3, c4⟩ := cell_row5 R52.out
  obtain ⟨s0, s1, s2⟩ := stamp_at R72.out
  obtain ⟨n0, n1, n2⟩ := stamp_at r12
  have MT := Lib.hid (mayType_any k v A n c l s who N w2 HRD2.out HN.out hs)
  rw [show mayT k v l s.size who N = F from hF.out] at MT
  clear b2 r12 HRD R5 R7 R10 HB1
  replace hw2 := Lib.hid hw2; replace hg12 := Lib.hid hg12
  go_upto_region 2 with fail
  rw [show w1.alloc (.cells #[.int .i64 d.d, .int .i64 d.s, .int .i64 i] 54) = w2 by rw [hw2.out, hN.out], show w1.heap.size = g12 from hg12.out.symm]
  clear hw2 hg12 d0 d1
  go_wp2_with fail
  refine MT.out.mono ?_
  rintro e w3 ⟨rfl, b3⟩
  have HB3 := Lib.hid (below_then HB2.out b3); have HRD3 := Lib.hid (HRD2.out.below b3)
  have R53 := Lib.hid (row_below R52.out b3); have R73 := Lib.hid (row_below R72.out b3); have R103 := Lib.hid (row_below R102.out b3); have R123 := Lib.hid (row_below R12.out b3)
  have hsz3 : Hid (g12 < w3.heap.size) := Nat.lt_of_lt_of_le hsz2.out.2.2.2.1 b3.size
  clear MT b3 c0 c1 c2 c3 c4 s0 s1 s2 n0 n1 n2 HB2 HRD2 R52 R72 R102 R12
  by_cases h0 : F = 0
  rotate_left
  · have e1 : (F == 0) = false := by simpa using h0
    have h0' := Lib.hid h0
    obtain ⟨c0, c1, c2, c3, c4⟩ := cell_row5 R103.out
    have f0 := frozen_row R103.out
    clear h0
    go_wp2_with fail
    refine bodyPost_ret (v := .tuple #[cellV 0 zeroT nilS, .int .i64 F]) (results_row_tmp rfl _ _ g10 26 _ (0, 0) _ rfl (set5 R103.out) Try.underlying26 rfl (by kernel_rfl) rfl) rfl ?_
    have q8 := hsz.out.2.2.2.2.2.2.2.1
    exact ⟨((((HB3.out.setCell q8 _).setCell q8 _).setCell q8 _).setCell q8 _).setCell q8 _, .inl ⟨h0'.out, rfl⟩⟩
  obtain rfl := h0
  have hmay := Lib.hid (mayT_ok.1 hF.out)
  have hform : Hid (∀ p ∈ l, 0 ≤ p.i ∧ p.i < 2000) := fun p hp => ((formedT_iff p).1 ((rightT10_ok.1 hmay.out.1).2.2.1.1 p hp)).2.2.1
  obtain ⟨D, hD⟩ : ∃ D, Hid (dotS who = D) := ⟨_, rfl⟩
  obtain ⟨f, hf⟩ : ∃ f, Hid (freeT l D = f) := ⟨_, rfl⟩
  have hfl := free_le (l := l) (d := D) hform.out
  rw [hf.out] at hfl
  have HFL := Lib.hid hfl
  have DO : Hid (∀ W, Calls Try.prog 30 #[who.agg] W fun e w' => e = .returned D.agg ∧ w' = (W.alloc (stampRow who)).alloc (dotRowT D)) := fun W => by rw [← hD.out]; exact dotOf_is who W
  have FR : Hid (∀ W, Below w3.heap.size w3 W → Calls Try.prog 31 #[.slice A n c, D.agg] W fun e w' => e = .returned (.int .i64 f) ∧ Below W.heap.size W w') := fun W hW => by rw [← hf.out]; exact freeT_any A n c l D W (HRD3.out.below hW) hform.out
  have K : Hid (∀ W, Below w3.heap.size w3 W → W.cell? ⟨g7, 0, none⟩ = some (.int .i64 who.t) ∧ W.cell? ⟨g7, 1, none⟩ = some (.int .i64 who.d) ∧ W.cell? ⟨g7, 2, none⟩ = some (.int .i64 who.q) ∧ W.cell? ⟨g5, 4, none⟩ = some (.slice A n c)) := fun W hW => by
    obtain ⟨s0, s1, s2⟩ := stamp_at (row_below R73.out hW)
    exact ⟨s0, s1, s2, (cell_row5 (row_below R53.out hW)).2.2.2.2⟩
  clear hfl
  go_wp2_with fail
  go_cut [14] from 29 to 36 (fun s14 W => ∃ g14, s14 = .pointer (some ⟨g14, 0, none⟩) ∧ Hid (W.heap[g14]? = some (nameRow ⟨D, f⟩)) ∧ Hid (Below w3.heap.size w3 W) ∧ Hid (w3.heap.size ≤ g14))
  case first =>
    go_region_held3 (fun W => W.cell? ⟨g7, 0, none⟩ = some (.int .i64 who.t) ∧ W.cell? ⟨g7, 1, none⟩ = some (.int .i64 who.d) ∧ W.cell? ⟨g7, 2, none⟩ = some (.int .i64 who.q) ∧ W.cell? ⟨g5, 4, none⟩ = some (.slice A n c))
      (first
        | (refine K.out _ ?_; (repeat (first | exact Below.refl _ _ | refine below_new ?_ _ | refine Below.drew ?_)); done)
        | (refine K.out _ ?_; (repeat (first | exact bfr | exact Below.refl _ _ | refine below_new ?_ _ | refine Below.drew ?_ | (refine Below.setCell ?_ (by show w3.heap.size ≤ _; first | exact Nat.le_refl _ | (dsimp only; omega)) _))); done))
      (first
        | (go_at_call 30; refine (DO.out _).mono ?_; rintro e wx ⟨rfl, rfl⟩)
        | (go_at_call 31
           refine (FR.out _ ?hb).mono ?_
           case hb =>
             repeat (first | exact Below.refl _ _ | refine below_new ?_ _ | refine Below.drew ?_)
           rintro e wx ⟨rfl, bfx⟩
           have bfr : Below w3.heap.size w3 wx := below_then (by repeat (first | exact Below.refl _ _ | refine below_new ?_ _ | refine Below.drew ?_)) bfx
           first
             | (refine use_row (g := w3.heap.size) (o := nameRow zN) bfx ?hrow (fun rr => ?_)
                case hrow =>
                  repeat (first | assumption | (refine heap_at ?_; (try simp only [World.size_alloc]); first | done | omega) | refine heap_drew ?_ | (refine heap_past ?_ ?_; focus ((try simp only [World.size_alloc]); first | done | omega)))
                  done
                obtain ⟨k0, k1, k2⟩ := stamp_at rr
                have kf := frozen_row rr)
             | (refine use_row (g := w3.heap.size + 1 + 1) (o := nameRow zN) bfx ?hrow (fun rr => ?_)
                case hrow =>
                  repeat (first | assumption | (refine heap_at ?_; (try simp only [World.size_alloc]); first | done | omega) | refine heap_drew ?_ | (refine heap_past ?_ ?_; focus ((try simp only [World.size_alloc]); first | done | omega)))
                  done
                obtain ⟨k0, k1, k2⟩ := stamp_at rr
                have kf := frozen_row rr)
             | (refine use_row (g := w3.heap.size + 1 + 1 + 1 + 1) (o := nameRow zN) bfx ?hrow (fun rr => ?_)
                case hrow =>
                  repeat (first | assumption | (refine heap_at ?_; (try simp only [World.size_alloc]); first | done | omega) | refine heap_drew ?_ | (refine heap_past ?_ ?_; focus ((try simp only [World.size_alloc]); first | done | omega)))
                  done
                obtain ⟨k0, k1, k2⟩ := stamp_at rr
                have kf := frozen_row rr)
             | skip))
    all_goals
      go_wp2_with fail
      go_meet
      refine ⟨_, rfl, ?_, ?_, ?_⟩
      · first | exact set3 rr | exact heap_alloc_new _ _
      · show Below w3.heap.size w3 _
        repeat (first | exact bfr | exact Below.refl _ _ | refine below_new ?_ _ | refine Below.drew ?_ | (refine Below.setCell ?_ (by show w3.heap.size ≤ _; first | exact Nat.le_refl _ | (dsimp only; omega)) _))
      · show w3.heap.size ≤ _
        first | exact bfr.size | exact Nat.le_refl _ | omega
  case rest =>
    obtain ⟨g14, rfl, R14, BC, hg14⟩ := hcut
    have HB4 := Lib.hid (below_then HB3.out BC.out); have HRD4 := Lib.hid (HRD3.out.below BC.out)
    have R54 := Lib.hid (row_below R53.out BC.out); have R74 := Lib.hid (row_below R73.out BC.out); have R104 := Lib.hid (row_below R103.out BC.out); have R124 := Lib.hid (row_below R123.out BC.out)
    have hsz4 : Hid (g5 < g14 ∧ g7 < g14 ∧ g10 < g14 ∧ g12 < g14 ∧ g14 < wc.heap.size ∧ w.heap.size ≤ g14) := by
      obtain ⟨q1, q2, q3, q4, q5⟩ := hsz2.out
      have q6 := hsz3.out; have q7 := hg14.out
      exact ⟨by omega, by omega, by omega, by omega, (Array.getElem?_eq_some_iff.1 R14.out).1, by omega⟩
    have CL := Lib.hid (cloneT_any A n c l wc HRD4.out (by have := HN.out; omega))
    clear K FR DO HB3 HRD3 R53 R73 R103 R123 BC hg14 hsz3
    obtain ⟨w4, rfl⟩ : ∃ w4, w4 = wc := ⟨_, rfl⟩
    obtain ⟨c0, c1, c2, c3, c4⟩ := cell_row5 R54.out
    go_wp2_with fail
    refine CL.out.mono ?_
    rintro e w5 ⟨vs, rfl, hown, b5⟩
    obtain ⟨A5, c5, rfl, _⟩ := RdG.own_ p11len (by omega) hown
    have TA : Hid (TypAt g5 g7 g10 g12 g14 k v (.slice A n c) who (behN D f N 0) ⟨D, f + ((0 : Nat) : Int)⟩ w4.heap.size (.slice A5 n c5) l w w5) := by
      refine ⟨row_below R54.out b5, row_below R74.out b5, row_below R104.out b5, row_below R124.out b5, ?_, ?_, below_then HB4.out b5, b5.size⟩
      · rw [show f + ((0 : Nat) : Int) = f by omega]; exact row_below R14.out b5
      · rw [HL.out]; exact hown
    have hws : Hid (w.heap.size ≤ w4.heap.size) := HB4.out.size
    obtain ⟨B, hB⟩ : ∃ B, B = w4.heap.size := ⟨_, rfl⟩
    rw [← hB] at TA
    rw [← hB] at hsz4 hws
    obtain ⟨nw, hnw⟩ : ∃ nw, Hid (newL (sbytes s) D who.t f N = nw) := ⟨_, rfl⟩
    have hnl : Hid (nw.length = s.size) := by show _ = _; rw [← hnw.out, newL_len, sbytes_len]
    have hadd : Hid (l ++ nw = addL l (sbytes s) who N) := by show _ = _; rw [← hnw.out, addL, hD.out, hf.out]
    replace hB := Lib.hid hB
    have hs9 : s.size ≤ 9223372036854775807 := by omega
    clear CL hown b5 c0 c1 c2 c3 c4 R54 R74 R104 R124 R14 HB4 HRD4
    go_upto_region 8 with fail
    go_loopw [15, 42] (fun sl ii wr => ∃ (j : Nat) (M : List P11) (A5 : Option Addr) (c5 : Nat), j ≤ s.size ∧ ii = .int .i64 j ∧ sl = .slice A5 M.length c5 ∧ Hid (M = l ++ nw.take j) ∧ Hid (TypAt g5 g7 g10 g12 g14 k v (.slice A n c) who (behN D f N j) ⟨D, f + (j : Int)⟩ B (.slice A5 M.length c5) M w wr)) (fun _ ii _ => s.size - (intOf ii).toNat)
    case atStart =>
      refine ⟨0, l, A5, c5, Nat.zero_le _, rfl, by rw [HL.out], by show _ = _; simp, ?_⟩
      rw [HL.out]; exact TA
    case round =>
      clear TA
      obtain ⟨j, M, A5, c5, hj, rfl, rfl, hM, HT⟩ := hrel
      by_cases hlt : j < s.size
      · obtain ⟨b, hb⟩ : ∃ b, (sbytes s)[j]? = some b := ⟨_, List.getElem?_eq_getElem (by rw [sbytes_len]; exact hlt)⟩
        have hbr := sbytes_rng s b (List.mem_of_getElem? hb)
        have hnx : Hid (M ++ [byteP b D who.t (f + (j : Int)) (behN D f N j)] = l ++ nw.take (j + 1)) := by
          show _ = _
          rw [← hnw.out, newL_next hb, hM.out, ← hnw.out, List.append_assoc]
        have hMl : Hid (M.length < 4294967296) := by
          have h1 := hmay.out.2.2.2.2.1
          show _ < _
          rw [hM.out, List.length_append, List.length_take]; omega
        have z1 : (0 : Int) ≤ (j : Int) := by omega
        have z2 : (j : Int) < (s.size : Int) := by omega
        have IX : ∀ W, (Instr.index 9 (.string s) (.int .i64 j)).run Try.prog W = .ok (.int .u8 b) W := fun W => by
          rw [run_index_string W _ _ _ _ Try.underlying9, dif_pos ⟨z1, z2⟩]
          obtain ⟨h1, h2⟩ := List.getElem?_eq_some_iff.1 hb
          rw [← h2]
          simp [sbytes]
          rfl
        have zb : IntKind.i64.wrap b = b := wrap_is (by omega)
        have hXY := behN_succ D f N j
        obtain ⟨X, hX⟩ : ∃ X, Hid (behN D f N j = X) := ⟨_, rfl⟩
        rw [hX.out] at HT hnx
        have K : Hid (∀ W, Below wr.heap.size wr W → W.cell? ⟨g14, 0, none⟩ = some (.int .i64 D.d) ∧ W.cell? ⟨g14, 1, none⟩ = some (.int .i64 D.s) ∧ W.cell? ⟨g14, 2, none⟩ = some (.int .i64 (f + (j : Int))) ∧ W.cell? ⟨g7, 0, none⟩ = some (.int .i64 who.t) ∧ W.cell? ⟨g12, 0, none⟩ = some (.int .i64 X.d.d) ∧ W.cell? ⟨g12, 1, none⟩ = some (.int .i64 X.d.s) ∧ W.cell? ⟨g12, 2, none⟩ = some (.int .i64 X.i)) := fun W hW => by
          have hT := HT.out.below hW
          obtain ⟨a0, a1, a2⟩ := stamp_at hT.r14
          obtain ⟨s0, s1, s2⟩ := stamp_at hT.r7
          obtain ⟨n0, n1, n2⟩ := stamp_at hT.r12
          exact ⟨a0, a1, a2, s0, n0, n1, n2⟩
        have K5 : Hid (∀ W W', Below wr.heap.size wr W → W.grownBy W' (Value.slice A5 M.length c5).ownBlock → W'.cell? ⟨g14, 0, none⟩ = some (.int .i64 D.d) ∧ W'.cell? ⟨g14, 1, none⟩ = some (.int .i64 D.s) ∧ W'.cell? ⟨g14, 2, none⟩ = some (.int .i64 (f + (j : Int))) ∧ W'.cell? ⟨g7, 0, none⟩ = some (.int .i64 who.t) ∧ W'.cell? ⟨g12, 0, none⟩ = some (.int .i64 X.d.d) ∧ W'.cell? ⟨g12, 1, none⟩ = some (.int .i64 X.d.s) ∧ W'.cell? ⟨g12, 2, none⟩ = some (.int .i64 X.i)) := fun W W' hW hgr => by
          have hT := HT.out.below hW
          have hk : ∀ g o, g < B → W.heap[g]? = some o → W'.heap[g]? = some o := fun g o hg ho => (hgr.block g (Nat.lt_of_lt_of_le hg hT.sz) (fun e => by have := (hT.own.lt g e.symm).1; omega)).trans ho
          obtain ⟨q1, q2, q3, q4, q5, q6⟩ := hsz4.out
          obtain ⟨a0, a1, a2⟩ := stamp_at (hk _ _ q5 hT.r14)
          obtain ⟨s0, s1, s2⟩ := stamp_at (hk _ _ (by omega) hT.r7)
          obtain ⟨n0, n1, n2⟩ := stamp_at (hk _ _ (by omega) hT.r12)
          exact ⟨a0, a1, a2, s0, n0, n1, n2⟩
        have OWN : Hid (∀ W, Below wr.heap.size wr W → W.ownsRow B 45 11 (.slice A5 M.length c5) M.length (M.flatMap P11.cells) ∧ B ≤ W.heap.size) := fun W hW => ⟨(HT.out.below hW).own, (HT.out.below hW).sz⟩
        have KF : Hid (∀ W W' s', Below wr.heap.size wr W → W.grownBy W' (Value.slice A5 M.length c5).ownBlock → W'.ownsRow B 45 11 s' (M.length + 1) ((M ++ [byteP b D who.t (f + (j : Int)) X]).flatMap P11.cells) → TypAt g5 g7 g10 g12 g14 k v (.slice A n c) who X ⟨D, f + (j : Int)⟩ B s' (M ++ [byteP b D who.t (f + (j : Int)) X]) w W') := fun W W' s' hW hgr hown => by
          obtain ⟨q1, q2, q3, q4, q5, q6⟩ := hsz4.out
          exact (HT.out.below hW).push (by omega) (by omega) (by omega) (by omega) q5 hws.out hown hgr
        clear hb hbr
        go_upto_region 10 with fail
        go_region_held3 (fun W => W.cell? ⟨g14, 0, none⟩ = some (.int .i64 D.d) ∧ W.cell? ⟨g14, 1, none⟩ = some (.int .i64 D.s) ∧ W.cell? ⟨g14, 2, none⟩ = some (.int .i64 (f + (j : Int))) ∧ W.cell? ⟨g7, 0, none⟩ = some (.int .i64 who.t) ∧ W.cell? ⟨g12, 0, none⟩ = some (.int .i64 X.d.d) ∧ W.cell? ⟨g12, 1, none⟩ = some (.int .i64 X.d.s) ∧ W.cell? ⟨g12, 2, none⟩ = some (.int .i64 X.i))
          (first
            | (refine K.out _ ?_; (repeat (first | exact Below.refl _ _ | refine below_new ?_ _ | refine Below.drew ?_)); done)
            | exact KK5)
          (first
            | (refine step_pushT rfl (.tmp 45) (.tmp 62) rfl B (.slice A5 M.length c5) M.length M (byteP b D who.t (f + (j : Int)) X) _ rfl rfl ?h1 ?h2 hMl.out ?h3 ?_
               case h1 =>
                 refine (OWN.out _ ?_).1
                 repeat (first | exact Below.refl _ _ | refine below_new ?_ _ | refine Below.drew ?_)
               case h2 => exact heap_alloc_new _ _
               case h3 =>
                 refine (OWN.out _ ?_).2
                 repeat (first | exact Below.refl _ _ | refine below_new ?_ _ | refine Below.drew ?_)
               intro v5 w5 hw5 hgr5 hat5
               have KK5 := K5.out _ _ (by repeat (first | exact Below.refl _ _ | refine below_new ?_ _ | refine Below.drew ?_)) hgr5
               have KF5 := Lib.hid (KF.out _ _ _ (by repeat (first | exact Below.refl _ _ | refine below_new ?_ _ | refine Below.drew ?_)) hgr5 hw5)
               obtain ⟨A6, c6, rfl, _⟩ := RdG.own_ p11len (by omega) hw5
               clear hw5 hgr5 hat5))
        have hml1 : Hid ((M ++ [byteP b D who.t (f + (j : Int)) X]).length = M.length + 1) := by show _ = _; simp
        have HFL2 := HFL.out
        have hmy := hmay.out.2.2.2.1
        have zf : IntKind.i64.wrap (f + (j : Int) + 1) = f + (j : Int) + 1 := wrap_is (by omega)
        obtain ⟨a0, a1, a2⟩ := stamp_at KF5.out.r14
        obtain ⟨n0, n1, n2⟩ := stamp_at KF5.out.r12
        have fz := frozen_row KF5.out.r12
        clear KK5 K K5 OWN KF IX zb HT HFL2 hmy
        go_upto_region 12 with fail
        have hq := hsz4.out
        have hq2 := hsz2.out
        have HT6 := Lib.hid (KF5.out.set12 (by omega) (by omega) (by omega) ⟨D, f + (j : Int)⟩)
        clear hq hq2 a0 a1 a2 n0 n1 n2 fz KF5
        generalize ((w5.setCell ⟨g12, 0, none⟩ (.int .i64 D.d)).setCell ⟨g12, 1, none⟩ (.int .i64 D.s)).setCell ⟨g12, 2, none⟩ (.int .i64 (f + (j : Int))) = w6 at HT6 ⊢
        obtain ⟨a0, a1, a2⟩ := stamp_at HT6.out.r14
        have fz := frozen_row HT6.out.r14
        go_wp2_with fail
        have hq := hsz4.out
        have hq2 := hsz2.out
        have HT7 := HT6.out.set14 (by omega) (by omega) (by omega) (f + (j : Int) + 1)
        refine ⟨⟨j + 1, _, A6, c6, by omega, by go_num, by rw [hml1.out], hnx, ?_⟩, by simp [intOf]; omega⟩
        rw [hXY, hml1.out, show f + ((j + 1 : Nat) : Int) = f + (j : Int) + 1 by omega]
        exact HT7
      · have hj2 : j = s.size := by omega
        have hM2 : M = addL l (sbytes s) who N := by rw [hM.out, List.take_of_length_le (by rw [hnl.out]; omega), hadd.out]
        have hwh : WholeT M := by rw [hM2]; exact addL_whole hF.out
        have hMl : M.length = n + s.size := by rw [hM2, addL_len, sbytes_len, HL.out]
        have hO2 : ordT M = O := by rw [hM2]; exact hO.out
        obtain ⟨A6, c6, hv6, hrd6⟩ := RdG.own_ p11len (by omega) HT.out.own
        injection hv6 with v1 v2 v3
        subst v1 v3
        have OC := ordered2_any A5 M.length c5 M wr hrd6 (by have := hmay.out.2.2.2.2.1; have := HL.out; omega) hwh
        rw [hO2, hMl] at OC
        have HOC := Lib.hid OC
        have HML := Lib.hid hMl
        clear hM2 hwh hO2 hrd6 OC hMl
        rw [HML.out]
        go_wp2_with fail
        refine HOC.out.mono ?_
        rintro e w6 ⟨A', c', rfl, hrO, b6, hat⟩
        have HT6 := Lib.hid (HT.out.below b6)
        have hq := hsz4.out
        have hbl : Hid (∀ a, A' = some a → a.block ≠ g5 ∧ a.block ≠ g10) := fun a ha => by
          have h1 := hat a ha; have h2 := HT.out.sz
          exact ⟨by omega, by omega⟩
        have hloc : Hid (∀ a, A' = some a → w.heap.size ≤ a.block) := fun a ha => Nat.le_trans HT.out.bel.size (hat a ha)
        obtain ⟨w7, hw7⟩ : ∃ w7, w7 = w6.setCell ⟨g5, 4, none⟩ (.slice A' (n + s.size) c') := ⟨_, rfl⟩
        have h57 : w7.heap[g5]? = some (cellRow k v (.slice A' (n + s.size) c')) := by rw [hw7, set_row HT6.out.r5 4]; rfl
        have h107 : w7.heap[g10]? = some (cellRow 0 ⟨0, 0, ⟨#[]⟩⟩ nilS) := by rw [hw7]; exact (setCell_other (Ne.symm hsz.out.2.2.2.1) _ _).trans HT6.out.r10
        have HB7 : Hid (Below w.heap.size w w7) := by rw [hw7]; exact HT6.out.bel.setCell hsz.out.2.2.2.2.2.2.1 _
        have HR7 : Hid (RdP w7 A' (n + s.size) c' O) := by rw [hw7]; exact rdp_cell hrO g5 (fun a ha => (hbl.out a ha).1) _ _
        obtain ⟨c0, c1, c2, c3, c4⟩ := cell_row5 HT6.out.r5
        have f5 := frozen_row HT6.out.r5 4
        have H107 := Lib.hid h107
        have hg10 := Lib.hid hsz.out.2.2.2.2.2.2.2.1
        replace hw7 := Lib.hid hw7
        clear hat hrO b6 HOC HT hq
        go_upto_region 15 with fail
        rw [show w6.setCell ⟨g5, 4, none⟩ (.slice A' (n + s.size) c') = w7 from hw7.out.symm]
        clear hw7 c0 c1 c2 c3 c4 f5 HT6
        obtain ⟨c0, c1, c2, c3, c4⟩ := cell_row5 h57
        obtain ⟨t0, t1, t2, t3, t4⟩ := cell_row5 h107
        have f10 := frozen_row h107
        clear h57 h107
        go_wp2_with fail
        refine bodyPost_ret (v := .tuple #[cellV k v (.slice A' (n + s.size) c'), .int .i64 0]) (results_row_tmp rfl _ _ g10 26 _ (0, 0) _ rfl (set5 H107.out) Try.underlying26 rfl (by kernel_rfl) rfl) rfl ?_
        refine ⟨((((HB7.out.setCell hg10.out _).setCell hg10.out _).setCell hg10.out _).setCell hg10.out _).setCell hg10.out _, A', c', rfl, ?_, hloc.out⟩
        have hne : ∀ a, A' = some a → a.block ≠ g10 := fun a ha => (hbl.out a ha).2
        exact rdp_cell (rdp_cell (rdp_cell (rdp_cell (rdp_cell HR7.out g10 hne _ _) g10 hne _ _) g10 hne _ _) g10 hne _ _) g10 hne _ _
end Go.Proofs.Ytlgpijdemfccaaa

