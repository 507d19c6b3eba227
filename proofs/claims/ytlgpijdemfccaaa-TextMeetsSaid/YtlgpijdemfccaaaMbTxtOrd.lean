/- Layer 10: text.ordered: whole parts, in their order. -/
import Derived.Test.YtlgpijdemfccaaaMbKids
import Derived.Test.YtlgpijdemfccaaaMbTxtHang
import Derived.Laws.EntriesVeiled
namespace Go.Proofs.Ytlgpijdemfccaaa
set_option maxRecDepth 100000
open Go.RowKit

set_option maxHeartbeats 6400000 in
theorem ordered2_any (A : Option Addr) (n c : Nat) (L : List P11) (w : World) (h : RdP w A n c L) (hn : n ≤ 4294967000) (hw : WholeT L) :
    Calls Try.prog 24 #[.slice A n c] w fun e w' => ∃ A' c', e = .returned (.slice A' n c') ∧ RdP w' A' n c' (ordT L) ∧ Below w.heap.size w w' ∧ ∀ a, A' = some a → w.heap.size ≤ a.block := by
  obtain ⟨m, hm⟩ : ∃ m, Hid (kidsT (srtT L) = m) := ⟨_, rfl⟩
  obtain ⟨C, hC⟩ : ∃ C, Hid (m zN = C) := ⟨_, rfl⟩
  obtain ⟨O, hO⟩ : ∃ O, Hid (ordT L = O) := ⟨_, rfl⟩
  have hL := h.len
  have hO2 : Hid (C.flatMap (hangT m n) = O) := by show _ = _; rw [← hO.out, ordT, hm.out, hC.out, hL]
  have hOl : Hid (O.length = n) := by show _ = _; rw [← hO.out, ordT_len hw, hL]
  have hdeep : Hid (∀ x ∈ C, DeepT m n x) := fun x hx => by
    have := deep_root hw (c := x) (by rw [hm.out, hC.out]; exact hx)
    rwa [hm.out, hL] at this
  have CH : Hid (Calls Try.prog 35 #[.slice A n c] w fun e w' => ∃ g, w.heap.size ≤ g ∧ e = .returned (.map (some g)) ∧ KidsR g m w' ∧ Below w.heap.size w w') := by
    have := childrenOf_any A n c L w h hn hw.2.1
    rw [hm.out] at this
    exact this
  rw [hO.out]
  have HN := Lib.hid hn
  have hle := h.le
  obtain ⟨i0, hi0, hz0, hz1, hz2⟩ := info_parts Try.infoPart
  have HI := Lib.hid hi0; have HZ0 := Lib.hid hz0; have HZ1 := Lib.hid hz1; have HZ2 := Lib.hid hz2
  clear h hn hw hL hi0 hz0 hz1 hz2
  go_enter Try.func24, Try.ntmps24
  go_wp2_with fail
  refine CH.out.mono ?_
  rintro e w1 ⟨g, hg, rfl, hk1, b1⟩
  obtain ⟨w2, hw2⟩ : ∃ w2, w2 = w1.alloc (oneRow (.map (some g)) 64) := ⟨_, rfl⟩
  have b2 : Below w1.heap.size w1 w2 := by rw [hw2]; exact below_new (Below.refl _ _) _
  have hbc : w2.heap[w1.heap.size]? = some (oneRow (.map (some g)) 64) := by rw [hw2]; exact heap_alloc_new _ _
  have HK := Lib.hid (hk1.below b2)
  have HBC := Lib.hid hbc
  have HB2 := Lib.hid (below_then b1 b2)
  replace hw2 := Lib.hid hw2
  clear CH hg hk1 b1 b2 hbc
  go_upto_region 2 with fail
  rw [show w1.alloc (oneRow (.map (some g)) 64) = w2 from hw2.out.symm]
  clear hw2
  generalize w1.heap.size = Bc at HBC ⊢
  go_upto_region 3 with (at_make; refine wpList_make_own _ rfl _ _ 24 rfl w2.heap.size 45 i0 _ 11 Try.underlying24 HI.out HZ0.out HZ1.out .i64 .i64 _ n rfl rfl rfl ?b2 ?b3 ?b4 ?_; rotate_left 3; intro w3 hown hgrow; have b3 := Below.grown (Below.refl w2.heap.size w2) hgrow (Nat.le_refl _) (fun k hk => by cases hk); have HO := Lib.hid hown; have HG := Lib.hid b3; clear hown hgrow b3)
  case b2 => rw [HZ2.out]; have := HN.out; omega
  case b3 => simp only [maxLen]; omega
  case b4 => exact Nat.le_refl _
  obtain ⟨w4, hw4⟩ : ∃ w4, w4 = w3.alloc (oneRow (.slice (some ⟨w2.heap.size, 0, none⟩) 0 n) 24) := ⟨_, rfl⟩
  have b4 : Below w3.heap.size w3 w4 := by rw [hw4]; exact below_new (Below.refl _ _) _
  have hb4 : w4.heap[w3.heap.size]? = some (oneRow (.slice (some ⟨w2.heap.size, 0, none⟩) 0 n) 24) := by rw [hw4]; exact heap_alloc_new _ _
  have hs4 : Hid (w4.heap.size = w3.heap.size + 1) := by rw [hw4]; show _ = _; simp
  have HO4 := Lib.hid (own_below HO.out b4)
  have HG4 := Lib.hid (below_then HG.out b4)
  have HB4 := Lib.hid hb4
  have hlo : Hid (w2.heap.size ≤ w3.heap.size) := HG.out.size
  replace hw4 := Lib.hid hw4
  clear HO HG b4 hb4 HI HZ0 HZ1 HZ2
  rw [show w3.alloc (oneRow (.slice (some ⟨w2.heap.size, 0, none⟩) 0 n) 24) = w4 from hw4.out.symm]
  clear hw4
  generalize w3.heap.size = Bo at HB4 hlo hs4 ⊢
  obtain ⟨w5, hw5⟩ : ∃ w5, w5 = w4.alloc (oneRow .nilFunc 66) := ⟨_, rfl⟩
  have b5 : Below w4.heap.size w4 w5 := by rw [hw5]; exact below_new (Below.refl _ _) _
  have hb5 : w5.heap[w4.heap.size]? = some (oneRow .nilFunc 66) := by rw [hw5]; exact heap_alloc_new _ _
  obtain ⟨q0, q1⟩ := one_row hb5
  have HB5 := Lib.hid hb5
  have b5' := Lib.hid b5
  replace hw5 := Lib.hid hw5
  clear b5 hb5
  go_upto_region 4 with fail
  rw [show w4.alloc (oneRow .nilFunc 66) = w5 from hw5.out.symm]
  clear hw5
  go_upto_region 5 with fail
  have HA5 : Hid (HangAt w2 Bo w4.heap.size (hangV Bo Bc w4.heap.size) [] (w5.setCell ⟨w4.heap.size, 0, none⟩ (hangV Bo Bc w4.heap.size))) := by
    have h1 := row_below HB4.out b5'.out
    have h2 := own_below HO4.out b5'.out
    have h3 := hs4.out
    have h4 := hlo.out
    refine ⟨?_, set_one HB5.out _, ⟨_, (setCell_other (by omega) _ _).trans h1, own_block h2 (fun b hb => setCell_other (own_ne_type h2 HB5.out (by decide) hb) _ _)⟩, h4⟩
    exact (below_then HG4.out b5'.out).setCell (by show w2.heap.size ≤ w4.heap.size; omega) _
  have hne : Hid (w4.heap.size ≠ Bo) := by have := hs4.out; show _ ≠ _; omega
  generalize w4.heap.size = Bh at HA5 hne ⊢
  generalize w5.setCell ⟨Bh, 0, none⟩ (hangV Bo Bc Bh) = w6 at HA5 ⊢
  clear q0 q1 HB5 b5' HB4 HO4 HG4 hs4 hlo
  obtain ⟨es, cl, hmap, hkid⟩ := HK.out
  obtain ⟨A1, c1, hrowv, hrd1⟩ := hkid zN
  rw [hC.out] at hrowv hrd1
  have hCl := Lib.hid hrd1.len
  have hle1 := hrd1.le
  have k0 := (one_row (row_below HBC.out HA5.out.bel)).1
  have RL : (Instr.lookup 64 (.map (some g)) (.agg #[.int .i64 0, .int .i64 0, .int .i64 0]) false).run Try.prog w6 = .ok (.slice A1 C.length c1) w6 := by
    have := run_lookK keyNP (row_below hmap HA5.out.bel) zN
    rw [← hrowv]; exact this
  have HRD1 := Lib.hid hrd1
  have HH := Lib.hid (hang_any w2 Bo Bc Bh g m HK.out HBC.out hne.out n)
  clear hmap hkid hrowv hrd1
  go_wp2_with fail
  go_loopw [18] (fun i wr => ∃ k : Nat, k ≤ C.length ∧ i = .int .i64 k ∧ Hid (HangAt w2 Bo Bh (hangV Bo Bc Bh) ((C.take k).flatMap (hangT m n)) wr)) (fun i _ => C.length - (intOf i).toNat)
  case atStart => exact ⟨0, Nat.zero_le _, rfl, by show HangAt _ _ _ _ _ _; simpa using HA5.out⟩
  case round =>
    clear HA5 k0 RL
    obtain ⟨k, hk, rfl, HA⟩ := hrel
    by_cases hlt : k < C.length
    · obtain ⟨b, o, x, rfl, hb, hx, hld⟩ := HRD1.out.part hlt
      obtain ⟨c0, c1, c2, c3, c4, c5, c6, c7, c8, c9, c10⟩ := hld wr HA.out.bel
      obtain ⟨w8, hw8⟩ : ∃ w8, w8 = wr.alloc (partCells x) := ⟨_, rfl⟩
      have bb : Below wr.heap.size wr w8 := by rw [hw8]; exact below_new (Below.refl _ _) _
      have hnew : w8.heap[wr.heap.size]? = some (partCells x) := by rw [hw8]; exact heap_alloc_new _ _
      have H8 := HA.out.below bb
      have hq := (one_row H8.bh).1
      obtain ⟨e0, e1, e2, e3, e4, e5, e6, e7, e8, e9, e10⟩ := part_row hnew
      have hst := Lib.hid (flat_takeT (h := hangT m n) hx)
      have hbd : ((C.take k).flatMap (hangT m n) ++ hangT m n x).length ≤ 4294967000 := by
        have h1 := flat_takeT_le (h := hangT m n) (C := C) (k + 1)
        rw [hst.out, hO2.out, hOl.out] at h1
        have h2 := HN.out
        omega
      have CX := Lib.hid (HH.out x (hdeep.out x (List.mem_of_getElem? hx)) _ w8 H8 hbd)
      clear hld hx bb hnew H8 hbd HA
      replace hw8 := Lib.hid hw8
      go_upto_region 8 with fail
      rw [show wr.alloc (partCells x) = w8 from hw8.out.symm]
      clear hw8 c0 c1 c2 c3 c4 c5 c6 c7 c8 c9 c10
      go_wp2_with fail
      refine CX.out.mono ?_
      rintro e w9 ⟨rfl, h9⟩
      have H9 : Hid (HangAt w2 Bo Bh (hangV Bo Bc Bh) ((C.take (k + 1)).flatMap (hangT m n)) w9) := by
        show HangAt _ _ _ _ _ _
        rw [hst.out]; exact h9
      clear h9 CX hq e0 e1 e2 e3 e4 e5 e6 e7 e8 e9 e10
      go_wp2_with fail
      exact ⟨⟨k + 1, by omega, by go_num, H9⟩, by simp [intOf]; omega⟩
    · have h1 := HA.out
      rw [List.take_of_length_le (by omega), hO2.out] at h1
      obtain ⟨v, h2, h3⟩ := h1.out
      obtain ⟨A6, c6, rfl, h4⟩ := RdG.own_ p11len (by omega) h3
      rw [hOl.out] at h2 h4
      have k4 := (one_row h2).1
      have hat : Hid (∀ a, A6 = some a → w.heap.size ≤ a.block) := fun a ha => Nat.le_trans HB2.out.size (h3.lt a.block (by rw [ha]; rfl)).1
      have hfin := Lib.hid h4
      have hfb := Lib.hid (HB2.out.trans (h1.bel.mono HB2.out.size))
      clear HA h1 h2 h3 h4
      go_wp2_with fail
      go_ret
      exact ⟨_, _, rfl, hfin.out, hfb.out, hat.out⟩

theorem ordered_any (A : Option Addr) (n c : Nat) (L : List P11) (w : World) (h : RdP w A n c L) (hn : n ≤ 4294967000) (hw : WholeT L) :
    Calls Try.prog 24 #[.slice A n c] w fun e w' => ∃ A' c', e = .returned (.slice A' n c') ∧ RdP w' A' n c' (ordT L) ∧ Below w.heap.size w w' :=
  (ordered2_any A n c L w h hn hw).mono fun _ _ ⟨A', c', h1, h2, h3, _⟩ => ⟨A', c', h1, h2, h3⟩
end Go.Proofs.Ytlgpijdemfccaaa

