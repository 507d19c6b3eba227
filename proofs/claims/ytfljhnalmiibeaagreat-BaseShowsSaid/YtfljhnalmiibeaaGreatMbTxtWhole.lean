/- Layer 10: text.whole: the walk that gathers names and times. -/
import Derived.Test.YtfljhnalmiibeaaGreatMbTxtHang
import Derived.Test.YtfljhnalmiibeaaGreatMbClkOpen
import Derived.Test.YtfljhnalmiibeaaGreatMbBasPut2
import Derived.Deep.RegionHeld3
import Derived.Deep.CutBlock
namespace Go.Proofs.YtfljhnalmiibeaaGreat
set_option maxRecDepth 100000
open Go.RowKit
/-- how the first walk over parts stands -/
structure WhAt (g h : Nat) (w0 : World) (l : List P11) (W : World) : Prop where
  off : OffM g h w0 W
  pl : W.heap[g]? = some (mapO N3.agg (placesE 0 l) l.length)
  tm : ∃ T c tm, W.heap[h]? = some (mapO D2.agg T c) ∧ TimesE T l tm
theorem WhAt.below {g h : Nat} {w0 : World} {l : List P11} {W W' : World} (x : WhAt g h w0 l W) (hb : Below W.heap.size W W') : WhAt g h w0 l W' := by
  obtain ⟨T, c, tm, h1, h2⟩ := x.tm
  exact ⟨x.off.trans (.of hb), row_below x.pl hb, ⟨T, c, tm, row_below h1 hb, h2⟩⟩
theorem rdp_off {g h : Nat} {w W : World} (x : OffM g h w W) {A : Option Addr} {n c : Nat} {l : List P11} (hr : RdP w A n c l) (hA : ∀ a, A = some a → a.block ≠ g ∧ a.block ≠ h) : RdP W A n c l := by
  obtain ⟨hl, h1, h2, hx⟩ := hr
  refine ⟨hl, h1, h2, fun h0 => ?_⟩
  obtain ⟨b, o, rfl, hb, hc⟩ := hx h0
  refine ⟨b, o, rfl, Nat.lt_of_lt_of_le hb x.size, fun j hj i v hv => ?_⟩
  rw [World.cell?_of_block (x.block b hb (hA _ rfl).1 (hA _ rfl).2)]
  exact hc j hj i v hv
set_option maxHeartbeats 12800000 in
theorem whole_any (A : Option Addr) (n c : Nat) (L : List P11) (w : World) (h : RdP w A n c L) (hn : n ≤ 4294967000) :
    Calls Tryz.prog 114 #[.slice A n c] w fun e w' => e = .returned (.bool (decide (WholeT L))) ∧ Below w.heap.size w w' := by
  obtain ⟨F, hF⟩ : ∃ F, Hid (decide (WholeT L) = F) := ⟨_, rfl⟩
  rw [hF.out]
  have hle := h.le
  have HL := Lib.hid h.len
  have hcap := Lib.hid h.cap
  have hmm := @run_makeMap Tryz.prog
  have hmz : ∀ (z : Int) (W : World), (Instr.makeMap 166 (some (.int .i64 z))).run Tryz.prog W = .ok (.map (some W.heap.size)) (W.alloc (.map #[] 0)) := fun z W => by
    unfold Instr.makeMap
    simp only [Sem.run_bind, run_underlying Tryz.underlying166, Result.andThen_ok]
    rfl
  obtain ⟨w1, hw1⟩ : ∃ w1, w1 = (w.alloc (.map #[] 0)).alloc (.map #[] 0) := ⟨_, rfl⟩
  obtain ⟨g, hg⟩ : ∃ g, g = w.heap.size := ⟨_, rfl⟩
  obtain ⟨g4, hg4⟩ : ∃ g4, g4 = w.heap.size + 1 := ⟨_, rfl⟩
  have B1 : Below w.heap.size w w1 := by rw [hw1]; exact below_new (below_new (Below.refl _ _) _) _
  have H0 : Hid (WhAt g g4 w1 (L.take 0) w1) := by
    refine ⟨OffM.refl _ _ _, ?_, ⟨[], 0, _, ?_, times_nil⟩⟩
    · rw [hw1, hg]; show _ = some (Obj.map #[] 0); rw [Below.heap_alloc _ _ _ (by simp)]; exact heap_alloc_new _ _
    · rw [hw1, hg4]; show _ = some (Obj.map #[] 0)
      have := heap_alloc_new (w.alloc (.map #[] 0)) (.map #[] 0)
      rwa [World.size_alloc] at this
  have HRD1 := Lib.hid (h.below B1)
  have HA : Hid (∀ a, A = some a → 0 < n → a.block ≠ g ∧ a.block ≠ g4) := fun a ha h0 => by
    obtain ⟨b, o, e, hb⟩ := h.hsize h0
    rw [ha] at e; cases e
    exact ⟨by show b ≠ g; omega, by show b ≠ g4; omega⟩
  have hgg : Hid (g ≠ g4 ∧ w.heap.size ≤ g ∧ w.heap.size ≤ g4) := ⟨by omega, by omega, by omega⟩
  have HB1 := Lib.hid B1
  replace hw1 := Lib.hid hw1
  clear h B1
  go_enter Tryz.func114, Tryz.ntmps114
  go_upto_region 4 with fail
  rw [show (w.alloc (.map #[] 0)).alloc (.map #[] 0) = w1 from hw1.out.symm, show w.heap.size + 1 = g4 from hg4.symm, ← hg]
  replace hg := Lib.hid hg; replace hg4 := Lib.hid hg4
  clear hw1 hmm hmz
  go_loopw [21] (fun i wr => ∃ k : Nat, k ≤ n ∧ i = .int .i64 k ∧ Hid (Good1 (L.take k)) ∧ Hid (WhAt g g4 w1 (L.take k) wr)) (fun i _ => n - (intOf i).toNat)
  case atStart => exact ⟨0, Nat.zero_le _, rfl, good_nil, H0⟩
  case round =>
    clear H0
    obtain ⟨k, hk, rfl, HG, HW⟩ := hrel
    by_cases hlt : k < n
    · have hrd := rdp_off HW.out.off HRD1.out (fun a ha => HA.out a ha (by omega))
      obtain ⟨b, o, x, rfl, hb, hx, hld⟩ := hrd.part hlt
      obtain ⟨c0, c1, c2, c3, c4, c5, c6, c7, c8, c9, c10⟩ := hld wr (Below.refl _ _)
      obtain ⟨w2, hw2⟩ : ∃ w2, w2 = wr.alloc (partCells x) := ⟨_, rfl⟩
      obtain ⟨g6, hg6⟩ : ∃ g6, g6 = wr.heap.size := ⟨_, rfl⟩
      have bb : Below wr.heap.size wr w2 := by rw [hw2]; exact below_new (Below.refl _ _) _
      have hnew : w2.heap[g6]? = some (partCells x) := by rw [hw2, hg6]; exact heap_alloc_new _ _
      have HW2 := Lib.hid (HW.out.below bb)
      have hgm : Hid (g6 ≠ g ∧ g6 ≠ g4 ∧ g6 < w2.heap.size) := by
        have h1 := (Array.getElem?_eq_some_iff.1 HW.out.pl).1
        obtain ⟨T, cT, tm, h2, _⟩ := HW.out.tm
        have h3 := (Array.getElem?_eq_some_iff.1 h2).1
        exact ⟨by omega, by omega, (Array.getElem?_eq_some_iff.1 hnew).1⟩
      have hlen : Hid ((L.take k).length = k) := by have := HL.out; show _ = _; rw [List.length_take]; omega
      have HX := Lib.hid hx
      have HNEW := Lib.hid hnew
      obtain ⟨e0, e1, e2, e3, e4, e5, e6, e7, e8, e9, e10⟩ := part_row hnew
      obtain ⟨N, hN⟩ : ∃ N, Hid (nm x = N) := ⟨_, rfl⟩
      have PN : Hid (∀ W, Calls Tryz.prog 144 #[x.agg] W fun e w' => e = .returned N.agg ∧ w' = (W.alloc (partCells x)).alloc (nameRow N)) := fun W => by rw [← hN.out]; exact nameOf_is x W
      obtain ⟨fr, hfr, PF⟩ : ∃ fr, Hid (formedT x = fr) ∧ Hid (∀ W, Calls Tryz.prog 145 #[x.agg] W fun e w' => e = .returned (.bool fr) ∧ Grown W w') := ⟨_, rfl, fun W => formed_any x W⟩
      clear hld hx bb HW hnew hrd
      replace hw2 := Lib.hid hw2; replace hg6 := Lib.hid hg6
      go_upto_region 6 with fail
      rw [show wr.alloc (partCells x) = w2 from hw2.out.symm, show wr.heap.size = g6 from hg6.out.symm]
      clear hw2 hg6 c0 c1 c2 c3 c4 c5 c6 c7 c8 c9 c10
      go_wp2_with fail
      refine (PN.out _).mono ?_
      rintro e w3 ⟨rfl, hw3⟩
      have b3 : Below w2.heap.size w2 w3 := by rw [hw3]; exact below_new (below_new (Below.refl _ _) _) _
      have HW3 := Lib.hid (HW2.out.below b3)
      have HN3 := Lib.hid (row_below HNEW.out b3)
      have hgm3 : Hid (g6 < w3.heap.size) := Nat.lt_of_lt_of_le hgm.out.2.2 b3.size
      clear hw3 b3 e0 e1 e2 e3 e4 e5 e6 e7 e8 e9 e10
      obtain ⟨T, cT, tm, hT, hTE⟩ := HW3.out.tm
      obtain ⟨th, tv, LP, hth⟩ : ∃ (th : Bool) (tv : Int), ((Instr.lookup 166 (.map (some g)) N.agg true).run Tryz.prog w3 = .ok (.tuple #[.int .i64 tv, .bool th]) w3) ∧ Hid ((th = true ∧ ∃ p ∈ L.take k, nm p = N) ∨ (th = false ∧ lookE (placesE 0 (L.take k)) N = none ∧ ∀ p ∈ L.take k, nm p ≠ N)) := by
        have hl := run_lookOkK keyNI HW3.out.pl N
        rcases placesE_look 0 (L.take k) N with ⟨h1, h2⟩ | ⟨j, p, h1, h2, h3⟩
        · rw [h1] at hl
          exact ⟨false, 0, hl, .inr ⟨rfl, h1, h2⟩⟩
        · rw [h1] at hl
          exact ⟨true, _, hl, .inl ⟨rfl, p, List.mem_of_getElem? h2, h3⟩⟩
      obtain ⟨kn, t0, LT, hkn⟩ : ∃ (kn : Bool) (t0 : Int), ((Instr.lookup 167 (.map (some g4)) (.agg #[.int .i64 x.d.d, .int .i64 x.d.s]) true).run Tryz.prog w3 = .ok (.tuple #[.int .i64 t0, .bool kn]) w3) ∧ Hid ((kn = true ∧ ∃ p ∈ L.take k, p.d = x.d ∧ p.t = t0) ∨ (kn = false ∧ ∀ p ∈ L.take k, p.d ≠ x.d)) := by
        have hl := run_lookOkK keyDI hT x.d
        rw [hTE.look] at hl
        cases htm : tm x.d with
        | none =>
          rw [htm] at hl
          refine ⟨false, 0, hl, .inr ⟨rfl, fun p hp e => ?_⟩⟩
          have := hTE.has p hp
          rw [e, htm] at this; cases this
        | some t =>
          rw [htm] at hl
          exact ⟨true, t, hl, .inl ⟨rfl, hTE.from_ _ _ htm⟩⟩
      obtain ⟨e0, e1, e2, e3, e4, e5, e6, e7, e8, e9, e10⟩ := part_row HN3.out
      clear hT hTE
      go_upto_region 8 with fail
      clear LP LT
      obtain ⟨B, hB⟩ : ∃ B, Hid ((!fr || (th || (kn && !(t0 == x.t)))) = B) := ⟨_, rfl⟩
      have HF : Hid (B = true → F = false) := fun e => by
        rw [← hF.out]
        refine decide_eq_false ?_
        rw [← hB.out] at e
        cases hf : fr with
        | false => exact not_whole1 HX.out (hfr.out.trans hf)
        | true =>
          rw [hf] at e
          rcases hth.out with ⟨h1, p, h2, h3⟩ | ⟨h1, _⟩
          · exact not_whole2 HX.out h2 (h3.trans hN.out.symm)
          · rw [h1] at e
            rcases hkn.out with ⟨h2, p, h3, h4, h5⟩ | ⟨h2, _⟩
            · rw [h2] at e
              exact not_whole3 HX.out h3 h4 (by rw [h5]; simpa using e)
            · rw [h2] at e; simp at e
      have HNX : Hid (B = false → Good1 (L.take (k + 1)) ∧ lookE (placesE 0 (L.take k)) N = none ∧ ∀ p ∈ L.take k, p.d = x.d → p.t = x.t) := fun e => by
        rw [← hB.out] at e
        simp only [Bool.or_eq_false_iff, Bool.not_eq_false', Bool.and_eq_false_iff] at e
        obtain ⟨e1, e2, e3⟩ := e
        rcases hth.out with ⟨h1, _⟩ | ⟨_, h1, h2⟩
        · rw [h1] at e2; cases e2
        · have h3 : ∀ p ∈ L.take k, p.d = x.d → p.t = x.t := fun p hp hd => by
            rcases hkn.out with ⟨h4, q, h5, h6, h7⟩ | ⟨h4, h5⟩
            · rcases e3 with e3 | e3
              · rw [h4] at e3; cases e3
              · have : t0 = x.t := by simpa using e3
                rw [← this, ← h7]
                exact HG.out.2.2 p hp q h5 (hd.trans h6.symm)
            · exact absurd hd (h5 p hp)
          refine ⟨?_, h1, h3⟩
          rw [take_succ HX.out]
          exact good_next HG.out (hfr.out.trans e1) (fun p hp => by rw [hN.out]; exact h2 p hp) h3
      go_cut [54] from 40 to 54 (fun u W => u = .bool B ∧ Hid (Grown w3 W))
      case first =>
        go_wp2_with fail
        refine (PF.out _).mono ?_
        rintro e w4 ⟨rfl, gw4⟩
        have HG4 := Lib.hid gw4
        obtain ⟨e0, e1, e2, e3, e4, e5, e6, e7, e8, e9, e10⟩ := part_row (row_below HN3.out gw4.below)
        clear gw4
        cases fr with
        | false =>
          go_wp2_with fail
          go_meet
          exact ⟨by rw [← hB.out]; rfl, HG4⟩
        | true =>
          cases th with
          | true =>
            go_wp2_with fail
            go_meet
            exact ⟨by rw [← hB.out]; rfl, HG4⟩
          | false =>
            cases kn with
            | false =>
              go_wp2_with fail
              go_meet
              exact ⟨by rw [← hB.out]; rfl, HG4⟩
            | true =>
              go_wp2_with fail
              go_meet
              exact ⟨by rw [← hB.out]; rfl, HG4⟩
      case rest =>
      obtain ⟨rfl, HGW⟩ := hcut
      have HW4 := Lib.hid (HW3.out.below HGW.out.below)
      have HN4 := Lib.hid (row_below HN3.out HGW.out.below)
      have hgm4 : Hid (g6 < wc.heap.size) := Nat.lt_of_lt_of_le hgm3.out HGW.out.below.size
      clear hB hfr hth hkn PF HW3 HN3 HGW hgm3 HW2 HNEW e0 e1 e2 e3 e4 e5 e6 e7 e8 e9 e10
      cases B with
      | true =>
        have HF2 : Hid (false = F) := (HF.out rfl).symm
        clear HF HNX
        go_wp2_with fail
        go_ret
        exact ⟨ret_bool HF2.out, HB1.out.trans (HW4.out.off.below HB1.out.size hgg.out.2.1 hgg.out.2.2)⟩
      | false =>
        obtain ⟨hg1, hln, htm⟩ := HNX.out rfl
        have HG1 := Lib.hid hg1
        obtain ⟨T, cT, tm, hT, hTE⟩ := HW4.out.tm
        have HTE := Lib.hid hTE
        have HTX := Lib.hid htm
        have hln2 := Lib.hid hln
        have hpl0 := HW4.out.pl
        rw [hlen.out] at hpl0
        obtain ⟨fE, hfE⟩ : ∃ f : World → World, Hid (∀ W, f W = putBlock W g (mapO N3.agg (placesE 0 (L.take k) ++ [⟨N, .int .i64 0, k⟩]) (k + 1))) := ⟨_, fun _ => rfl⟩
        obtain ⟨fS, hfS⟩ : ∃ f : World → World, Hid (∀ W, f W = putBlock W g (mapO N3.agg (placesE 0 (L.take k) ++ [⟨N, .int .i64 k, k⟩]) (k + 1))) := ⟨_, fun _ => rfl⟩
        obtain ⟨fU, hfU⟩ : ∃ f : World → World, Hid (∀ W, f W = putBlock W g4 (mapO D2.agg (putE T x.d (.int .i64 x.t) cT) (clkE T x.d cT))) := ⟨_, fun _ => rfl⟩
        have a0 : AtO g (mapO N3.agg (placesE 0 (L.take k)) k) wc := hpl0
        have t0' : AtO g4 (mapO D2.agg T cT) wc := hT
        have rE : ∀ W, AtO g (mapO N3.agg (placesE 0 (L.take k)) k) W → (Instr.mapEntry 166 (.map (some g)) N.agg).run Tryz.prog W = .ok (.tuple #[.int .i64 0, .int .i64 k]) (fE W) := fun W hW => by
          rw [hfE.out]; exact run_entryK keyNI hW N hln2.out
        have rS : ∀ W, AtO g (mapO N3.agg (placesE 0 (L.take k) ++ [⟨N, .int .i64 0, k⟩]) (k + 1)) W → (Instr.entryStore 166 (.map (some g)) (.int .i64 k) (.int .i64 k)).run Tryz.prog W = .ok () (fS W) := fun W hW => by
          rw [hfS.out]
          exact run_entryStoreK hW (fun e he => by have := placesE_born 0 (L.take k) e he; rw [hlen.out] at this; omega) _
        have rU : ∀ W, AtO g4 (mapO D2.agg T cT) W → (Instr.mapUpdate 167 (.map (some g4)) (.agg #[.int .i64 x.d.d, .int .i64 x.d.s]) (.int .i64 x.t)).run Tryz.prog W = .ok () (fU W) := fun W hW => by
          rw [hfU.out]; exact run_putK keyDI hW x.d _
        have s1 := AtO.alloc g N3.agg (placesE 0 (L.take k)) k
        have s2 := AtO.drew g (mapO N3.agg (placesE 0 (L.take k)) k)
        have s3 : ∀ W, AtO g (mapO N3.agg (placesE 0 (L.take k)) k) (fU W) = AtO g (mapO N3.agg (placesE 0 (L.take k)) k) W := fun W => by rw [hfU.out]; exact AtO.put _ _ _ _ _ hgg.out.1
        have s4 : ∀ W, AtO g (mapO N3.agg (placesE 0 (L.take k)) k) W → AtO g (mapO N3.agg (placesE 0 (L.take k) ++ [⟨N, .int .i64 0, k⟩]) (k + 1)) (fE W) := fun W hW => by rw [hfE.out]; exact putBlock_at hW
        have s5 : ∀ W, AtO g (mapO N3.agg (placesE 0 (L.take k) ++ [⟨N, .int .i64 0, k⟩]) (k + 1)) (fU W) = AtO g (mapO N3.agg (placesE 0 (L.take k) ++ [⟨N, .int .i64 0, k⟩]) (k + 1)) W := fun W => by rw [hfU.out]; exact AtO.put _ _ _ _ _ hgg.out.1
        have s6 : ∀ W, AtO g (mapO N3.agg (placesE 0 (L.take k) ++ [⟨N, .int .i64 0, k⟩]) (k + 1)) W → AtO g (mapO N3.agg (placesE 0 (L.take k) ++ [⟨N, .int .i64 k, k⟩]) (k + 1)) (fS W) := fun W hW => by rw [hfS.out]; exact putBlock_at hW
        have s7 : ∀ W, AtO g (mapO N3.agg (placesE 0 (L.take k) ++ [⟨N, .int .i64 k, k⟩]) (k + 1)) (fU W) = AtO g (mapO N3.agg (placesE 0 (L.take k) ++ [⟨N, .int .i64 k, k⟩]) (k + 1)) W := fun W => by rw [hfU.out]; exact AtO.put _ _ _ _ _ hgg.out.1
        have v1 := AtO.alloc g4 D2.agg T cT
        have v2 := AtO.drew g4 (mapO D2.agg T cT)
        have v3 : ∀ W, AtO g4 (mapO D2.agg T cT) (fE W) = AtO g4 (mapO D2.agg T cT) W := fun W => by rw [hfE.out]; exact AtO.put _ _ _ _ _ (Ne.symm hgg.out.1)
        have v4 : ∀ W, AtO g4 (mapO D2.agg T cT) (fS W) = AtO g4 (mapO D2.agg T cT) W := fun W => by rw [hfS.out]; exact AtO.put _ _ _ _ _ (Ne.symm hgg.out.1)
        have v5 : ∀ W, AtO g4 (mapO D2.agg T cT) W → AtO g4 (mapO D2.agg (putE T x.d (.int .i64 x.t) cT) (clkE T x.d cT)) (fU W) := fun W hW => by rw [hfU.out]; exact putBlock_at hW
        have v6 : ∀ W, AtO g4 (mapO D2.agg (putE T x.d (.int .i64 x.t) cT) (clkE T x.d cT)) (fE W) = AtO g4 (mapO D2.agg (putE T x.d (.int .i64 x.t) cT) (clkE T x.d cT)) W := fun W => by rw [hfE.out]; exact AtO.put _ _ _ _ _ (Ne.symm hgg.out.1)
        have v7 : ∀ W, AtO g4 (mapO D2.agg (putE T x.d (.int .i64 x.t) cT) (clkE T x.d cT)) (fS W) = AtO g4 (mapO D2.agg (putE T x.d (.int .i64 x.t) cT) (clkE T x.d cT)) W := fun W => by rw [hfS.out]; exact AtO.put _ _ _ _ _ (Ne.symm hgg.out.1)
        have v8 := AtO.alloc g4 D2.agg (putE T x.d (.int .i64 x.t) cT) (clkE T x.d cT)
        have oE : Hid (∀ W, OffM g g4 wc W → OffM g g4 wc (fE W)) := fun W hW => by rw [hfE.out]; exact hW.putL _
        have oS : Hid (∀ W, OffM g g4 wc W → OffM g g4 wc (fS W)) := fun W hW => by rw [hfS.out]; exact hW.putL _
        have oU : Hid (∀ W, OffM g g4 wc W → OffM g g4 wc (fU W)) := fun W hW => by rw [hfU.out]; exact hW.putR _
        have K : Hid (∀ W, OffM g g4 wc W → W.cell? ⟨g6, 0, none⟩ = some (.int .i64 x.v.k) ∧ W.cell? ⟨g6, 1, none⟩ = some (.int .i64 x.v.n) ∧ W.cell? ⟨g6, 2, none⟩ = some (.string x.v.s) ∧ W.cell? ⟨g6, 3, none⟩ = some (.int .i64 x.d.d) ∧ W.cell? ⟨g6, 4, none⟩ = some (.int .i64 x.d.s) ∧ W.cell? ⟨g6, 5, none⟩ = some (.int .i64 x.i) ∧ W.cell? ⟨g6, 6, none⟩ = some (.int .i64 x.t) ∧ W.cell? ⟨g6, 7, none⟩ = some (.int .i64 x.a.d) ∧ W.cell? ⟨g6, 8, none⟩ = some (.int .i64 x.a.s) ∧ W.cell? ⟨g6, 9, none⟩ = some (.int .i64 x.j) ∧ W.cell? ⟨g6, 10, none⟩ = some (.bool x.g)) := fun W hW => part_row ((hW.block g6 hgm4.out hgm.out.1 hgm.out.2.1).trans HN4.out)
        clear hg1 hln htm hT hTE hpl0 HF HNX HN4
        go_wp2_with fail
        go_region_held3 (fun W => W.cell? ⟨g6, 0, none⟩ = some (.int .i64 x.v.k) ∧ W.cell? ⟨g6, 1, none⟩ = some (.int .i64 x.v.n) ∧ W.cell? ⟨g6, 2, none⟩ = some (.string x.v.s) ∧ W.cell? ⟨g6, 3, none⟩ = some (.int .i64 x.d.d) ∧ W.cell? ⟨g6, 4, none⟩ = some (.int .i64 x.d.s) ∧ W.cell? ⟨g6, 5, none⟩ = some (.int .i64 x.i) ∧ W.cell? ⟨g6, 6, none⟩ = some (.int .i64 x.t) ∧ W.cell? ⟨g6, 7, none⟩ = some (.int .i64 x.a.d) ∧ W.cell? ⟨g6, 8, none⟩ = some (.int .i64 x.a.s) ∧ W.cell? ⟨g6, 9, none⟩ = some (.int .i64 x.j) ∧ W.cell? ⟨g6, 10, none⟩ = some (.bool x.g))
          (first
            | (refine K.out _ ?_; (repeat (first | exact OffM.refl _ _ _ | refine OffM.alloc ?_ _ | refine OffM.drew ?_ | refine oE.out _ ?_ | refine oS.out _ ?_ | refine oU.out _ ?_)); done))
            (first
              | (go_at_call 144; refine (PN.out _).mono ?_; rintro e wx ⟨rfl, rfl⟩))
        obtain ⟨wz, hwz⟩ : ∃ wz, wz = ((wc.alloc (partCells x)).alloc (nameRow N)).drew := ⟨_, rfl⟩
        rw [← hwz]
        have z1 : AtO g (mapO N3.agg (placesE 0 (L.take k)) k) wz := by rw [hwz, s2, s1, s1]; exact a0
        have z2 : AtO g4 (mapO D2.agg T cT) wz := by rw [hwz, v2, v1, v1]; exact t0'
        have z3 : OffM g g4 wc wz := by rw [hwz]; exact ((OffM.refl _ _ _).alloc _).alloc _ |>.drew
        have HF5 : Hid (WhAt g g4 w1 (L.take (k + 1)) (fU (fS (fE wz)))) := by
          refine ⟨HW4.out.off.trans (oU.out _ (oS.out _ (oE.out _ z3))), ?_, ⟨putE T x.d (.int .i64 x.t) cT, clkE T x.d cT, fun d => if d = x.d then some x.t else tm d, ?_, ?_⟩⟩
          · have q : AtO g _ (fU (fS (fE wz))) := (s7 _).mpr (s6 _ (s4 _ z1))
            have hl1 : (L.take (k + 1)).length = k + 1 := by rw [take_succ HX.out, List.length_append, hlen.out]; rfl
            rw [hl1, take_succ HX.out, placesE_append, hlen.out, hN.out, Nat.zero_add]
            exact q
          · have q : AtO g4 _ (fU (fS (fE wz))) := v5 _ ((v4 _).mpr ((v3 _).mpr z2))
            exact q
          · rw [take_succ HX.out]; exact HTE.out.next x cT HTX.out
        clear z1 z2 z3 hwz a0 t0' rE rS rU s1 s2 s3 s4 s5 s6 s7 v1 v2 v3 v4 v5 v6 v7 v8 oE oS oU K
        generalize fU (fS (fE wz)) = wy at HF5 ⊢
        go_wp2_with fail
        exact ⟨⟨k + 1, by omega, by go_num, HG1, HF5⟩, by simp [intOf]; omega⟩
    · have hk2 : k = n := by omega
      have hfull : L.take k = L := List.take_of_length_le (by have := HL.out; omega)
      rw [hfull] at HG HW
      clear hk hlt
      go_wp2_with fail
      clear hk2
      obtain ⟨w5, rfl⟩ : ∃ w5, w5 = wr := ⟨_, rfl⟩
      go_loopw [69] (fun i wr => ∃ k : Nat, k ≤ n ∧ i = .int .i64 k ∧ Hid (∀ p ∈ L.take k, UpOk L p) ∧ Hid (Below w5.heap.size w5 wr)) (fun i _ => n - (intOf i).toNat)
      case atStart => exact ⟨0, Nat.zero_le _, rfl, by intro p hp; simp at hp, Below.refl _ _⟩
      case round =>
        obtain ⟨k, hk, rfl, HU, HB⟩ := hrel
        have HW5 := Lib.hid (HW.out.below HB.out)
        by_cases hlt : k < n
        · have hrd := rdp_off HW5.out.off HRD1.out (fun a ha => HA.out a ha (by omega))
          obtain ⟨b, o, x, rfl, hb, hx, hld⟩ := hrd.part hlt
          obtain ⟨c0, c1, c2, c3, c4, c5, c6, c7, c8, c9, c10⟩ := hld wr (Below.refl _ _)
          obtain ⟨w2, hw2⟩ : ∃ w2, w2 = wr.alloc (partCells x) := ⟨_, rfl⟩
          obtain ⟨g12, hg12⟩ : ∃ g12, g12 = wr.heap.size := ⟨_, rfl⟩
          have bb : Below wr.heap.size wr w2 := by rw [hw2]; exact below_new (Below.refl _ _) _
          have hnew : w2.heap[g12]? = some (partCells x) := by rw [hw2, hg12]; exact heap_alloc_new _ _
          have HB2 := Lib.hid (below_then HB.out bb)
          have HX := Lib.hid hx
          have HNEW := Lib.hid hnew
          obtain ⟨e0, e1, e2, e3, e4, e5, e6, e7, e8, e9, e10⟩ := part_row hnew
          obtain ⟨N, hN⟩ : ∃ N, Hid (upN x = N) := ⟨_, rfl⟩
          have PP : Hid (∀ W, Calls Tryz.prog 146 #[x.agg] W fun e w' => e = .returned N.agg ∧ w' = (W.alloc (partCells x)).alloc (nameRow N)) := fun W => by rw [← hN.out]; exact parentOf_is x W
          clear hld hx bb hnew hrd HB HW5
          replace hw2 := Lib.hid hw2; replace hg12 := Lib.hid hg12
          go_upto_region 15 with fail
          rw [show wr.alloc (partCells x) = w2 from hw2.out.symm, show wr.heap.size = g12 from hg12.out.symm]
          clear hw2 hg12 c0 c1 c2 c3 c4 c5 c6 c7 c8 c9 c10
          go_wp2_with fail
          refine (PP.out _).mono ?_
          rintro e w3 ⟨rfl, hw3⟩
          have b3 : Below w2.heap.size w2 w3 := by rw [hw3]; exact below_new (below_new (Below.refl _ _) _) _
          have HB3 := Lib.hid (below_then HB2.out b3)
          have HN3 := Lib.hid (row_below HNEW.out b3)
          have HW3 := HW.out.below HB3.out
          have KK : Hid (∀ W, Below w3.heap.size w3 W → W.cell? ⟨g12, 0, none⟩ = some (.int .i64 x.v.k) ∧ W.cell? ⟨g12, 1, none⟩ = some (.int .i64 x.v.n) ∧ W.cell? ⟨g12, 2, none⟩ = some (.string x.v.s) ∧ W.cell? ⟨g12, 3, none⟩ = some (.int .i64 x.d.d) ∧ W.cell? ⟨g12, 4, none⟩ = some (.int .i64 x.d.s) ∧ W.cell? ⟨g12, 5, none⟩ = some (.int .i64 x.i) ∧ W.cell? ⟨g12, 6, none⟩ = some (.int .i64 x.t) ∧ W.cell? ⟨g12, 7, none⟩ = some (.int .i64 x.a.d) ∧ W.cell? ⟨g12, 8, none⟩ = some (.int .i64 x.a.s) ∧ W.cell? ⟨g12, 9, none⟩ = some (.int .i64 x.j) ∧ W.cell? ⟨g12, 10, none⟩ = some (.bool x.g)) := fun W hW => part_row (row_below HN3.out hW)
          clear hw3 b3 e0 e1 e2 e3 e4 e5 e6 e7 e8 e9 e10 HB2 HNEW
          have hl := run_lookOkK keyNI HW3.pl N
          have hUx : Hid (UpOk L x → ∀ p ∈ L.take (k + 1), UpOk L p) := fun h p hp => by
            rw [take_succ HX.out] at hp
            rcases List.mem_append.1 hp with hp | hp
            · exact HU.out p hp
            · rw [List.mem_singleton.1 hp]; exact h
          have HOUT : Hid (∀ W, Below w5.heap.size w5 W → Below w.heap.size w W) := fun W hW => HB1.out.trans ((HW.out.off.trans (.of hW)).below HB1.out.size hgg.out.2.1 hgg.out.2.2)
          by_cases hz : N = zN
          · have EQ : ∀ W, (Op.equalIn 10000 169 (.agg #[.int .i64 N.d.d, .int .i64 N.d.s, .int .i64 N.i]) (.agg #[.int .i64 0, .int .i64 0, .int .i64 0])).run Tryz.prog W = .ok true W := fun W => by
              have := run_equalIn_nameF 9997 N zN W
              rw [decide_eq_true hz] at this; exact this
            have HUx := Lib.hid (hUx.out (.inl (hN.out.trans hz)))
            obtain ⟨tv, th, htv⟩ : ∃ tv th, Value.tuple #[(lookE (placesE 0 L) N).getD (.int .i64 0), .bool (lookE (placesE 0 L) N).isSome] = .tuple #[.int .i64 tv, .bool th] := by
              rcases placesE_look 0 L N with ⟨h1, _⟩ | ⟨j, p, h1, _, _⟩ <;> rw [h1] <;> exact ⟨_, _, rfl⟩
            rw [htv] at hl
            clear htv hz hN hUx HW3
            go_upto_region 16 with fail
            clear hl
            refine wp_region_noPanic ?_
            refine wp_region_held_drew (S := (fun W => W.cell? ⟨g12, 0, none⟩ = some (.int .i64 x.v.k) ∧ W.cell? ⟨g12, 1, none⟩ = some (.int .i64 x.v.n) ∧ W.cell? ⟨g12, 2, none⟩ = some (.string x.v.s) ∧ W.cell? ⟨g12, 3, none⟩ = some (.int .i64 x.d.d) ∧ W.cell? ⟨g12, 4, none⟩ = some (.int .i64 x.d.s) ∧ W.cell? ⟨g12, 5, none⟩ = some (.int .i64 x.i) ∧ W.cell? ⟨g12, 6, none⟩ = some (.int .i64 x.t) ∧ W.cell? ⟨g12, 7, none⟩ = some (.int .i64 x.a.d) ∧ W.cell? ⟨g12, 8, none⟩ = some (.int .i64 x.a.s) ∧ W.cell? ⟨g12, 9, none⟩ = some (.int .i64 x.j) ∧ W.cell? ⟨g12, 10, none⟩ = some (.bool x.g))) (by kernel_rfl) ?_ (fun hHeld => ?_)
            · (refine KK.out _ ?_; (repeat (first | exact Below.refl _ _ | refine below_new ?_ _ | refine Below.drew ?_)); done)
            refine wpAnyH_one (by kernel_rfl) (fun _ _ _ _ _ h => h) (by assumption) 0 15 (some 80) ?_ _ (by rfl) (by rfl) (by kernel_rfl) (by rfl) ?_ ?_
            rotate_left 1
            · intro W hSw
              (try dsimp only at hSw)
              go_simp
              (try with_reducible rfl)
            (try simp only [Act.put, List.setIfInBounds_toArray, List.set_cons_zero, List.set_cons_succ])
            refine wpAnyH_one (by kernel_rfl) (fun _ _ _ _ _ h => h) (by assumption) 2 14 (some 82) ?_ _ (by rfl) (by rfl) (by kernel_rfl) (by rfl) ?_ ?_
            rotate_left 1
            · intro W hSw
              (try dsimp only at hSw)
              go_simp
              (try with_reducible rfl)
            (try simp only [Act.put, List.setIfInBounds_toArray, List.set_cons_zero, List.set_cons_succ])
            refine wpAnyH_ready (rs := [1]) (by kernel_rfl) (by simp) (AllReadyH.cons rfl (fun K hK => ?_) AllReadyH.nil)
            go_simp
            (go_at_call 146; refine (PP.out _).mono ?_; rintro e wx ⟨rfl, rfl⟩)
            (try go_wp2_with fail)
            refine hK.out _ _ ?_ (fun hHeld => ?_)
            · (try dsimp only)
              refine KK.out _ ?_
              (repeat (first | exact Below.refl _ _ | refine below_new ?_ _ | refine Below.drew ?_))
              done
            clear hK K
            (try simp only [Act.put, List.setIfInBounds_toArray, List.set_cons_zero, List.set_cons_succ])
            refine wpAnyH_one (by kernel_rfl) (fun _ _ _ _ _ h => h) (by assumption) 3 12 (some 83) ?_ _ (by rfl) (by rfl) (by kernel_rfl) (by rfl) ?_ ?_
            rotate_left 1
            · intro W hSw
              (try dsimp only at hSw)
              go_simp
              (try with_reducible rfl)
            (try simp only [Act.put, List.setIfInBounds_toArray, List.set_cons_zero, List.set_cons_succ])
            refine wpAnyH_puts (by kernel_rfl) (fun _ _ _ _ _ h => h) (by assumption) [4, 5, 6, 7, 8, 9, 10, 11, 12, 13, 14, 15] 0 [(some 84, .bool false), (some 85, undef), (some 86, undef), (some 87, undef), (some 88, undef), (some 89, undef), (some 90, undef), (some 91, undef), (some 92, undef), (some 93, undef), (some 94, undef), (some 95, .bool false)] (by kernel_rfl) (by kernel_rfl) ?_
            (try simp only [putsOf, Act.put, List.setIfInBounds_toArray, List.set_cons_zero, List.set_cons_succ])
            refine wpAnyH_done (by kernel_rfl) ?_ _
            refine NoPanic.normal ?_
            (try simp only [Act.put, List.setIfInBounds_toArray, List.set_cons_zero, List.set_cons_succ])
            have hbz : Below w3.heap.size w3 (((w3.alloc (partCells x)).alloc (nameRow N)).drew) := (below_new (below_new (Below.refl _ _) _) _).drew
            generalize ((w3.alloc (partCells x)).alloc (nameRow N)).drew = w4 at hbz ⊢
            have HB4 := Lib.hid (below_then HB3.out hbz)
            clear hbz EQ
            go_wp2_with fail
            exact ⟨⟨k + 1, by omega, by go_num, HUx, HB4⟩, by simp [intOf]; omega⟩
          · have EQ : ∀ W, (Op.equalIn 10000 169 (.agg #[.int .i64 N.d.d, .int .i64 N.d.s, .int .i64 N.i]) (.agg #[.int .i64 0, .int .i64 0, .int .i64 0])).run Tryz.prog W = .ok false W := fun W => by
              have := run_equalIn_nameF 9997 N zN W
              rw [decide_eq_false hz] at this; exact this
            rcases placesE_look 0 L N with ⟨h1, h2⟩ | ⟨j, q, h1, h2, h3⟩
            · rw [h1] at hl
              have hl2 : (Instr.lookup 166 (.map (some g)) N.agg true).run Tryz.prog w3 = .ok (.tuple #[.int .i64 0, .bool false]) w3 := hl
              have hF2 : Hid (false = F) := by
                show _ = _
                rw [← hF.out]
                refine (decide_eq_false (not_whole4 HX.out ?_)).symm
                rintro (e | ⟨q, hq, e, _⟩)
                · exact hz (hN.out.symm.trans e)
                · exact h2 q hq (e.trans hN.out)
              clear hz hN hUx HW3 hl h1 h2
              go_upto_region 16 with fail
              clear hl2
              refine wp_region_noPanic ?_
              refine wp_region_held_drew (S := (fun W => W.cell? ⟨g12, 0, none⟩ = some (.int .i64 x.v.k) ∧ W.cell? ⟨g12, 1, none⟩ = some (.int .i64 x.v.n) ∧ W.cell? ⟨g12, 2, none⟩ = some (.string x.v.s) ∧ W.cell? ⟨g12, 3, none⟩ = some (.int .i64 x.d.d) ∧ W.cell? ⟨g12, 4, none⟩ = some (.int .i64 x.d.s) ∧ W.cell? ⟨g12, 5, none⟩ = some (.int .i64 x.i) ∧ W.cell? ⟨g12, 6, none⟩ = some (.int .i64 x.t) ∧ W.cell? ⟨g12, 7, none⟩ = some (.int .i64 x.a.d) ∧ W.cell? ⟨g12, 8, none⟩ = some (.int .i64 x.a.s) ∧ W.cell? ⟨g12, 9, none⟩ = some (.int .i64 x.j) ∧ W.cell? ⟨g12, 10, none⟩ = some (.bool x.g))) (by kernel_rfl) ?_ (fun hHeld => ?_)
              · (refine KK.out _ ?_; (repeat (first | exact Below.refl _ _ | refine below_new ?_ _ | refine Below.drew ?_)); done)
              refine wpAnyH_one (by kernel_rfl) (fun _ _ _ _ _ h => h) (by assumption) 0 15 (some 80) ?_ _ (by rfl) (by rfl) (by kernel_rfl) (by rfl) ?_ ?_
              rotate_left 1
              · intro W hSw
                (try dsimp only at hSw)
                go_simp
                (try with_reducible rfl)
              (try simp only [Act.put, List.setIfInBounds_toArray, List.set_cons_zero, List.set_cons_succ])
              refine wpAnyH_one (by kernel_rfl) (fun _ _ _ _ _ h => h) (by assumption) 2 14 (some 82) ?_ _ (by rfl) (by rfl) (by kernel_rfl) (by rfl) ?_ ?_
              rotate_left 1
              · intro W hSw
                (try dsimp only at hSw)
                go_simp
                (try with_reducible rfl)
              (try simp only [Act.put, List.setIfInBounds_toArray, List.set_cons_zero, List.set_cons_succ])
              refine wpAnyH_ready (rs := [1]) (by kernel_rfl) (by simp) (AllReadyH.cons rfl (fun K hK => ?_) AllReadyH.nil)
              go_simp
              (go_at_call 146; refine (PP.out _).mono ?_; rintro e wx ⟨rfl, rfl⟩)
              (try go_wp2_with fail)
              refine hK.out _ _ ?_ (fun hHeld => ?_)
              · (try dsimp only)
                refine KK.out _ ?_
                (repeat (first | exact Below.refl _ _ | refine below_new ?_ _ | refine Below.drew ?_))
                done
              clear hK K
              (try simp only [Act.put, List.setIfInBounds_toArray, List.set_cons_zero, List.set_cons_succ])
              refine wpAnyH_one (by kernel_rfl) (fun _ _ _ _ _ h => h) (by assumption) 3 12 (some 83) ?_ _ (by rfl) (by rfl) (by kernel_rfl) (by rfl) ?_ ?_
              rotate_left 1
              · intro W hSw
                (try dsimp only at hSw)
                go_simp
                (try with_reducible rfl)
              (try simp only [Act.put, List.setIfInBounds_toArray, List.set_cons_zero, List.set_cons_succ])
              refine wpAnyH_puts (by kernel_rfl) (fun _ _ _ _ _ h => h) (by assumption) [4, 5, 6, 7, 8, 9, 10, 11, 12, 13] 2 [(some 84, .bool true), (some 85, .bool false), (some 86, .bool false), (some 87, undef), (some 88, undef), (some 89, undef), (some 90, undef), (some 91, undef), (some 92, undef), (some 93, .bool false)] (by kernel_rfl) (by kernel_rfl) ?_
              (try simp only [putsOf, Act.put, List.setIfInBounds_toArray, List.set_cons_zero, List.set_cons_succ])
              refine wpAnyH_one (by kernel_rfl) (fun _ _ _ _ _ h => h) (by assumption) 14 1 (some 94) ?_ _ (by rfl) (by rfl) (by kernel_rfl) (by rfl) ?_ ?_
              rotate_left 1
              · intro W hSw
                (try dsimp only at hSw)
                go_simp
                (try with_reducible rfl)
              (try simp only [Act.put, List.setIfInBounds_toArray, List.set_cons_zero, List.set_cons_succ])
              refine wpAnyH_puts (by kernel_rfl) (fun _ _ _ _ _ h => h) (by assumption) [15] 0 [(some 95, .bool true)] (by kernel_rfl) (by kernel_rfl) ?_
              (try simp only [putsOf, Act.put, List.setIfInBounds_toArray, List.set_cons_zero, List.set_cons_succ])
              refine wpAnyH_done (by kernel_rfl) ?_ _
              refine NoPanic.normal ?_
              (try simp only [Act.put, List.setIfInBounds_toArray, List.set_cons_zero, List.set_cons_succ])
              have hbz : Below w3.heap.size w3 (((w3.alloc (partCells x)).alloc (nameRow N)).drew) := (below_new (below_new (Below.refl _ _) _) _).drew
              generalize ((w3.alloc (partCells x)).alloc (nameRow N)).drew = w4 at hbz ⊢
              have HB4 := Lib.hid (HOUT.out _ (below_then HB3.out hbz))
              clear hbz EQ
              go_wp2_with fail
              go_ret
              exact ⟨ret_bool hF2.out, HB4.out⟩
            · rw [h1, Nat.zero_add] at hl
              have hl2 : (Instr.lookup 166 (.map (some g)) N.agg true).run Tryz.prog w3 = .ok (.tuple #[.int .i64 j, .bool true]) w3 := hl
              obtain ⟨r, hr, PO⟩ : ∃ r, Hid (older q x = r) ∧ Hid (∀ W, Calls Tryz.prog 147 #[q.agg, x.agg] W fun e w' => e = .returned (.bool r) ∧ Grown W w') := ⟨_, rfl, fun W => older_any q x W⟩
              have hjn : j < n := by have := (List.getElem?_eq_some_iff.1 h2).1; have := HL.out; omega
              have hQ : Hid (∀ W, Below w3.heap.size w3 W → W.cell? ⟨b, o + j * 11, none⟩ = some (.int .i64 q.v.k) ∧ W.cell? ⟨b, o + j * 11 + 1, none⟩ = some (.int .i64 q.v.n) ∧ W.cell? ⟨b, o + j * 11 + 2, none⟩ = some (.string q.v.s) ∧ W.cell? ⟨b, o + j * 11 + 3, none⟩ = some (.int .i64 q.d.d) ∧ W.cell? ⟨b, o + j * 11 + 4, none⟩ = some (.int .i64 q.d.s) ∧ W.cell? ⟨b, o + j * 11 + 5, none⟩ = some (.int .i64 q.i) ∧ W.cell? ⟨b, o + j * 11 + 6, none⟩ = some (.int .i64 q.t) ∧ W.cell? ⟨b, o + j * 11 + 7, none⟩ = some (.int .i64 q.a.d) ∧ W.cell? ⟨b, o + j * 11 + 8, none⟩ = some (.int .i64 q.a.s) ∧ W.cell? ⟨b, o + j * 11 + 9, none⟩ = some (.int .i64 q.j) ∧ W.cell? ⟨b, o + j * 11 + 10, none⟩ = some (.bool q.g)) := by
                intro W hW
                have hrd := rdp_off (HW3.off.trans (.of hW)) HRD1.out (fun a ha => HA.out a ha (by omega))
                obtain ⟨b', o', q', e', _, hq', hld'⟩ := hrd.part hjn
                cases e'
                rw [h2] at hq'; cases hq'
                exact hld' W (Below.refl _ _)
              have hRt : Hid (r = true → ∀ p ∈ L.take (k + 1), UpOk L p) := fun e => hUx.out (.inr ⟨q, List.mem_of_getElem? h2, h3.trans hN.out.symm, hr.out.trans e⟩)
              have hRf : Hid (r = false → false = F) := fun e => by
                rw [← hF.out]
                refine (decide_eq_false fun hw => ?_).symm
                have := hw.up (List.mem_of_getElem? HX.out) (List.mem_of_getElem? h2) (h3.trans hN.out.symm)
                rw [hr.out, e] at this; cases this
              have z1 : (0 : Int) ≤ (j : Int) := by omega
              have z2 : (j : Int) < (n : Int) := by omega
              have K2 : Hid (∀ W, Below w3.heap.size w3 W → (W.cell? ⟨g12, 0, none⟩ = some (.int .i64 x.v.k) ∧ W.cell? ⟨g12, 1, none⟩ = some (.int .i64 x.v.n) ∧ W.cell? ⟨g12, 2, none⟩ = some (.string x.v.s) ∧ W.cell? ⟨g12, 3, none⟩ = some (.int .i64 x.d.d) ∧ W.cell? ⟨g12, 4, none⟩ = some (.int .i64 x.d.s) ∧ W.cell? ⟨g12, 5, none⟩ = some (.int .i64 x.i) ∧ W.cell? ⟨g12, 6, none⟩ = some (.int .i64 x.t) ∧ W.cell? ⟨g12, 7, none⟩ = some (.int .i64 x.a.d) ∧ W.cell? ⟨g12, 8, none⟩ = some (.int .i64 x.a.s) ∧ W.cell? ⟨g12, 9, none⟩ = some (.int .i64 x.j) ∧ W.cell? ⟨g12, 10, none⟩ = some (.bool x.g)) ∧ (W.cell? ⟨b, o + j * 11, none⟩ = some (.int .i64 q.v.k) ∧ W.cell? ⟨b, o + j * 11 + 1, none⟩ = some (.int .i64 q.v.n) ∧ W.cell? ⟨b, o + j * 11 + 2, none⟩ = some (.string q.v.s) ∧ W.cell? ⟨b, o + j * 11 + 3, none⟩ = some (.int .i64 q.d.d) ∧ W.cell? ⟨b, o + j * 11 + 4, none⟩ = some (.int .i64 q.d.s) ∧ W.cell? ⟨b, o + j * 11 + 5, none⟩ = some (.int .i64 q.i) ∧ W.cell? ⟨b, o + j * 11 + 6, none⟩ = some (.int .i64 q.t) ∧ W.cell? ⟨b, o + j * 11 + 7, none⟩ = some (.int .i64 q.a.d) ∧ W.cell? ⟨b, o + j * 11 + 8, none⟩ = some (.int .i64 q.a.s) ∧ W.cell? ⟨b, o + j * 11 + 9, none⟩ = some (.int .i64 q.j) ∧ W.cell? ⟨b, o + j * 11 + 10, none⟩ = some (.bool q.g))) := fun W hW => ⟨KK.out W hW, hQ.out W hW⟩
              clear hz hN hUx HW3 hl h1 h2 h3 hr hQ KK
              go_upto_region 16 with fail
              clear hl2
              go_region_held3 (fun W => Below w3.heap.size w3 W ∧ (W.cell? ⟨g12, 0, none⟩ = some (.int .i64 x.v.k) ∧ W.cell? ⟨g12, 1, none⟩ = some (.int .i64 x.v.n) ∧ W.cell? ⟨g12, 2, none⟩ = some (.string x.v.s) ∧ W.cell? ⟨g12, 3, none⟩ = some (.int .i64 x.d.d) ∧ W.cell? ⟨g12, 4, none⟩ = some (.int .i64 x.d.s) ∧ W.cell? ⟨g12, 5, none⟩ = some (.int .i64 x.i) ∧ W.cell? ⟨g12, 6, none⟩ = some (.int .i64 x.t) ∧ W.cell? ⟨g12, 7, none⟩ = some (.int .i64 x.a.d) ∧ W.cell? ⟨g12, 8, none⟩ = some (.int .i64 x.a.s) ∧ W.cell? ⟨g12, 9, none⟩ = some (.int .i64 x.j) ∧ W.cell? ⟨g12, 10, none⟩ = some (.bool x.g)) ∧ (W.cell? ⟨b, o + j * 11, none⟩ = some (.int .i64 q.v.k) ∧ W.cell? ⟨b, o + j * 11 + 1, none⟩ = some (.int .i64 q.v.n) ∧ W.cell? ⟨b, o + j * 11 + 2, none⟩ = some (.string q.v.s) ∧ W.cell? ⟨b, o + j * 11 + 3, none⟩ = some (.int .i64 q.d.d) ∧ W.cell? ⟨b, o + j * 11 + 4, none⟩ = some (.int .i64 q.d.s) ∧ W.cell? ⟨b, o + j * 11 + 5, none⟩ = some (.int .i64 q.i) ∧ W.cell? ⟨b, o + j * 11 + 6, none⟩ = some (.int .i64 q.t) ∧ W.cell? ⟨b, o + j * 11 + 7, none⟩ = some (.int .i64 q.a.d) ∧ W.cell? ⟨b, o + j * 11 + 8, none⟩ = some (.int .i64 q.a.s) ∧ W.cell? ⟨b, o + j * 11 + 9, none⟩ = some (.int .i64 q.j) ∧ W.cell? ⟨b, o + j * 11 + 10, none⟩ = some (.bool q.g)))
                (first
                  | (refine ⟨?_, K2.out _ ?_⟩ <;> (go_split_ands; (repeat (first | assumption | exact Below.refl _ _ | refine below_then ?_ (Grown.below gg) | refine below_new ?_ _ | refine Below.drew ?_)); done)))
                (first
                  | (go_at_call 146; refine (PP.out _).mono ?_; rintro e wx ⟨rfl, rfl⟩)
                  | (go_at_call 147; refine (PO.out _).mono ?_; rintro e wx ⟨rfl, gg⟩))
              all_goals
                have hbz := below_then (below_new (below_new (Below.refl w3.heap.size w3) (partCells x)) (nameRow N)).drew gg.below
                have HB4 := Lib.hid (below_then HB3.out hbz)
                clear hbz gg EQ K2
                cases r with
                | true =>
                  have HUy := Lib.hid (hRt.out rfl)
                  go_wp2_with fail
                  exact ⟨⟨k + 1, by omega, by go_num, HUy, HB4⟩, by simp [intOf]; omega⟩
                | false =>
                  have hF2 := Lib.hid (hRf.out rfl)
                  have HB5 := Lib.hid (HOUT.out _ HB4.out)
                  go_wp2_with fail
                  go_ret
                  exact ⟨ret_bool hF2.out, HB5.out⟩
        · have hUall : Hid (true = F) := by
            have h1 := HU.out
            rw [List.take_of_length_le (by have := HL.out; omega)] at h1
            show _ = _
            rw [← hF.out]
            exact (decide_eq_true ((whole_good L).2 ⟨HG.out, h1⟩)).symm
          clear HU HB
          go_wp2_with fail
          go_ret
          exact ⟨ret_bool hUall.out, HB1.out.trans (HW5.out.off.below HB1.out.size hgg.out.2.1 hgg.out.2.2)⟩
end Go.Proofs.YtfljhnalmiibeaaGreat

