/- Whatever schema and number come in: SchemaFewer answers true: a schema that is right is right without its checks, unique columns, foreign keys, and bounds; with one of its tables twice it is not. No condition. -/
import Derived.Test.YtogfnjlhfbpneaaRows
import Derived.Test.YtogfnjlhfbpneaaLaw
import Derived.Test.YtogfnjlhfbpneaaSchAlive
import Derived.Test.YtogfnjlhfbpneaaSchOpen
import Derived.Test.YtogfnjlhfbpneaaSchMore
import Derived.Test.YtogfnjlhfbpneaaSchPush
namespace Go.Proofs.Ytogfnjlhfbpneaa.schemaFewer
open Go.ChangeShapes Go.WideShapes Go.ChangeAt Go.RowKit Go.ChangeMaps

set_option maxRecDepth 100000 in
set_option maxHeartbeats 12800000 in
theorem walk (A : Option Addr) (n c : Nat) (l : List T6) (at1 : Int) (w : World) (h : RdS w A n c l) (hsm : ∀ t ∈ l, t.Small) (lo : 0 ≤ at1) (hi : at1 ≤ 255) : Calls Try.prog 8 #[.agg #[.slice A n c], .int .u8 at1] w fun e w' => e = .returned (.bool true) ∧ Below w.heap.size w w' := by
  have HB0 := Lib.hid (Below.refl w.heap.size w)
  obtain ⟨w1, hw1⟩ : ∃ w1, w1 = w.alloc (schBox A n c) := ⟨_, rfl⟩
  have HW1 := Lib.hid hw1
  have HB1 : Hid (Below w.heap.size w w1) := by rw [hw1]; exact below_new (Below.refl _ _) _
  have R1 : Hid (w1.heap[w.heap.size]? = some (schBox A n c)) := by rw [hw1]; exact heap_alloc_new _ _
  have HS1 := Lib.hid (h.below HB1.out)
  obtain ⟨f, hf⟩ : ∃ f, Hid (fewB l = f) := ⟨_, rfl⟩
  have CF : Hid (∀ W, RdS W A n c l → Calls Try.prog 13 #[.agg #[.slice A n c]] W fun e w' => e = .returned (.bool f) ∧ Below W.heap.size W w') := fun W hW => by rw [← hf.out]; exact refFew_any A n c l W hW hsm
  have hle := h.le
  have HL := Lib.hid h.len
  clear hw1 h hsm
  have s0 := sch_row R1.out
  go_enter Try.func8, Try.ntmps8
  go_upto_region 1 with fail
  rw [show w.alloc (schBox A n c) = w1 from HW1.out.symm]
  clear HW1
  go_wp2_with fail
  refine (CF.out _ HS1.out).mono ?_
  rintro e w2 ⟨rfl, b2⟩
  have HB2 := Lib.hid (below_then HB1.out b2)
  have R2 := Lib.hid (row_below R1.out b2)
  have HS2 := Lib.hid (HS1.out.below b2)
  clear b2 CF HB1 R1 HS1 s0 HB0
  have s0 := sch_row R2.out
  cases f with
  | false =>
    go_wp2_with fail
    refine (alive11_any _).mono ?_
    rintro e wz ⟨rfl, bz⟩
    have HZ := Lib.hid (below_then HB2.out bz)
    clear bz
    go_wp2_with fail
    go_ret
    exact ⟨rfl, HZ.out⟩
  | true =>
    obtain ⟨E, hE⟩ : ∃ E, Hid (rightE l = E) := ⟨_, rfl⟩
    have CR := Lib.hid (right11_is A n c l E w2 HS2.out hE.out)
    go_wp2_with fail
    refine CR.out.mono ?_
    rintro e w3 ⟨rfl, b3⟩
    have HB3 := Lib.hid (below_then HB2.out b3)
    have R3 := Lib.hid (row_below R2.out b3)
    have HS3 := Lib.hid (HS2.out.below b3)
    clear b3 CR HB2 R2 HS2 s0
    have s0 := sch_row R3.out
    by_cases hE0 : E = 0
    rotate_left
    · have q0 := beq_no hE0
      have q1 : (E != 0) = true := by simp [bne, q0]
      clear hE0
      go_wp2_with fail
      refine (alive11_any _).mono ?_
      rintro e wz ⟨rfl, bz⟩
      have HZ := Lib.hid (below_then HB3.out bz)
      clear bz
      go_wp2_with fail
      go_ret
      exact ⟨rfl, HZ.out⟩
    · subst hE0
      by_cases hn0 : n = 0
      · have q0 : ((n : Int) == 0) = true := by simpa using hn0
        clear hn0
        go_wp2_with fail
        refine (alive11_any _).mono ?_
        rintro e wz ⟨rfl, bz⟩
        have HZ := Lib.hid (below_then HB3.out bz)
        clear bz
        go_wp2_with fail
        go_ret
        exact ⟨rfl, HZ.out⟩
      have q0 : ((n : Int) == 0) = false := by simpa using hn0
      obtain ⟨k, hk, hkn⟩ : ∃ k : Nat, at1.tmod (n : Int) = (k : Int) ∧ k < n := by
        refine ⟨(at1.tmod (n : Int)).toNat, ?_, ?_⟩
        · have := Int.tmod_nonneg (n : Int) lo; omega
        · have h1 := Int.tmod_lt_of_pos at1 (show (0 : Int) < (n : Int) by omega)
          have := Int.tmod_nonneg (n : Int) lo; omega
      have wr1 : IntKind.i64.wrap at1 = at1 := wrap_is (by omega)
      have wr2 : IntKind.i64.wrap (k : Int) = (k : Int) := wrap_is (by omega)
      have hn16 : n ≤ 16 := by have := (rightE_tab hE.out).2.1; rw [HL.out] at this; exact this
      obtain ⟨bt, ot, t, rfl, hb, hx, hxr, hld⟩ := HS3.out.tab hkn
      obtain ⟨d0, d1, d2, d3, d4, d5⟩ := hld w3 (Below.refl _ _)
      have HX := Lib.hid hx
      obtain ⟨w5, hw5⟩ : ∃ w5, w5 = w3.alloc (.cells #[.string t.nm, .slice t.ca t.nc t.cc, .slice none 0 0, .slice none 0 0, .slice none 0 0, .slice none 0 0] 39) := ⟨_, rfl⟩
      have HW5 := Lib.hid hw5
      have B5 : Hid (Below w3.heap.size w3 w5) := by rw [hw5]; exact below_new (Below.refl _ _) _
      have R5 : Hid (w5.heap[w3.heap.size]? = some (tabBox (bareT t))) := by rw [hw5]; exact heap_alloc_new _ _
      have HB5 := Lib.hid (below_then HB3.out B5.out)
      have HS5 := Lib.hid (HS3.out.below B5.out)
      have S5 := Lib.hid (row_below R3.out B5.out)
      have HTR : Hid ((bareT t).Reads w5) := ⟨hxr.cols.below B5.out, Rd.nil_ _, ⟨Nat.le_refl 0, Nat.zero_le _⟩, RdG.nil_ _, RdG.nil_ _⟩
      have y1 : (k : Int) < (n : Int) := by omega
      have y0 : (0 : Int) ≤ (k : Int) := by omega
      have y2 : ¬ (n : Int) = 0 := by omega
      clear hb hx hxr hld hw5 hn0
      go_upto_region 6 with fail
      rw [show w3.alloc (.cells #[.string t.nm, .slice t.ca t.nc t.cc, .slice none 0 0, .slice none 0 0, .slice none 0 0, .slice none 0 0] 39) = w5 from HW5.out.symm]
      clear HW5 d0 d1 d2 d3 d4 d5 s0
      generalize w3.heap.size = g5 at R5 ⊢
      obtain ⟨q2, hq2⟩ := run_fromTab (b := bt) (o := ot) (n := n) (c := c) (k := k + 1) (by omega)
      have hcap := HS5.out.row.cap
      have SL1 := fun W => run_uptoTab (A := some ⟨bt, ot, none⟩) (n := n) (c := c) (m := k) (by omega) W
      have SL2 : ∀ W : World, (Instr.slice 24 (.slice (some ⟨bt, ot, none⟩) n c) (some (.int .i64 ((k : Int) + 1))) none none).run Try.prog W = .ok (.slice (some ⟨bt, q2, none⟩) (n - (k + 1)) (c - (k + 1))) W := fun W => by
        have := (hq2 W).1
        rwa [show (((k + 1 : Nat)) : Int) = (k : Int) + 1 from by omega] at this
      have wr3 : IntKind.i64.wrap ((k : Int) + 1) = (k : Int) + 1 := wrap_is (by omega)
      have HD : Hid (∀ W, Below w5.heap.size w5 W → RdTb W (some ⟨bt, q2, none⟩) (n - (k + 1)) (c - (k + 1)) (l.drop (k + 1))) := fun W hW => (hq2 W).2 l (HS5.out.row.below hW)
      have HK : Hid (∀ W, Below w5.heap.size w5 W → RdTb W (some ⟨bt, ot, none⟩) k c (l.take k)) := fun W hW => (HS5.out.upto (Nat.le_of_lt hkn)).row.below hW
      obtain ⟨m2, hm2⟩ : ∃ m2, n - (k + 1) = m2 := ⟨_, rfl⟩
      obtain ⟨c2, hc2⟩ : ∃ c2, c - (k + 1) = c2 := ⟨_, rfl⟩
      rw [hm2, hc2] at SL2 HD
      have HM2 : Hid (k + 1 + m2 = n) := by show _ = _; omega
      have KA : Hid (∀ W, Below w5.heap.size w5 W → (Below w5.heap.size w5 W ∧ W.cell? ⟨w.heap.size, 0, none⟩ = some (.slice (some ⟨bt, ot, none⟩) n c) ∧ W.cell? ⟨g5, 0, none⟩ = some (.string t.nm) ∧ W.cell? ⟨g5, 1, none⟩ = some (.slice t.ca t.nc t.cc) ∧ W.cell? ⟨g5, 2, none⟩ = some (.slice none 0 0) ∧ W.cell? ⟨g5, 3, none⟩ = some (.slice none 0 0) ∧ W.cell? ⟨g5, 4, none⟩ = some (.slice none 0 0) ∧ W.cell? ⟨g5, 5, none⟩ = some (.slice none 0 0))) := by
        intro W hb
        obtain ⟨e0, e1, e2, e3, e4, e5⟩ := tab_row (row_below R5.out hb)
        exact ⟨hb, sch_row (row_below S5.out hb), e0, e1, e2, e3, e4, e5⟩
      have hS0 := KA.out w5.drew (Below.refl _ _).drew
      clear hq2 hk hm2 hc2 wr2
      go_wp2_with fail
      go_cut [7] from 39 to 53 (fun v wz => Hid (wz.ownsRow w5.heap.size 39 6 v n ((lessL l k t).flatMap T6.cells)) ∧ Hid (Below w5.heap.size w5 wz))
      case first =>
        go_region_held3 (fun W => Below w5.heap.size w5 W ∧ W.cell? ⟨w.heap.size, 0, none⟩ = some (.slice (some ⟨bt, ot, none⟩) n c) ∧ W.cell? ⟨g5, 0, none⟩ = some (.string t.nm) ∧ W.cell? ⟨g5, 1, none⟩ = some (.slice t.ca t.nc t.cc) ∧ W.cell? ⟨g5, 2, none⟩ = some (.slice none 0 0) ∧ W.cell? ⟨g5, 3, none⟩ = some (.slice none 0 0) ∧ W.cell? ⟨g5, 4, none⟩ = some (.slice none 0 0) ∧ W.cell? ⟨g5, 5, none⟩ = some (.slice none 0 0))
          (first
          | (go_split_ands; exact KA.out _ (below_then (by assumption) bb))
          | (go_split_ands; with_reducible refine KA.out _ (below_new ?_ _); first | assumption | (with_reducible refine Below.drew ?_; assumption))
          | (go_split_ands; with_reducible refine KA.out _ (Below.drew ?_); first | assumption | (with_reducible refine below_new ?_ _; assumption))
          | (exact KA.out _ (below_new (Below.refl _ _) _).drew)
          | (go_split_ands; exact KA.out _ (below_new (by assumption) _).drew)
          | (go_split_ands; exact KA.out _ (by assumption)))
          (first
            | ((try go_split_ands); refine step_appT (W0 := w5) rfl (.tmp 39) (.tmp 43) rfl w5.heap.size _ 0 [] bt ot k c (l.take k) rfl rfl (World.ownsRow_nil _ _ _ _) (HK.out _ ?_) ?_ ?_ ?_ ?_
               · first | assumption | exact (Below.refl _ _).drew | exact (below_new (Below.refl _ _) _).drew | exact below_new (by assumption) _ | exact (below_new (by assumption) _).drew
               · omega
               · first | assumption | exact (Below.refl _ _).drew | exact (below_new (Below.refl _ _) _).drew | exact below_new (by assumption) _ | exact (below_new (by assumption) _).drew
               · first | exact Nat.le_refl _ | exact (below_new (Below.refl w5.heap.size w5) _).size | (refine Below.size (w := w5) ?_; assumption)
               intro v1 w6 own1 bb sz1 bn1
               replace bn1 := Lib.hid (bn1 rfl)
               rw [Nat.zero_add, List.nil_append] at own1
               obtain ⟨AA1, cc1, rfl, _⟩ := RdG.own_ t6len (by omega) own1
               have OW1 := Lib.hid own1
               clear own1)
            | ((try go_split_ands); refine step_appT (W0 := w5) rfl (.tmp 44) (.tmp 46) rfl w5.heap.size (.slice AA1 k cc1) k (l.take k) _ 0 1 1 [bareT t] (by rfl) (by rfl) ?_ ?_ ?_ ?_ ?_ ?_
               · first | exact OW1.out | exact OW1.out.alloc _
               · first | exact rdg_new t6len _ [bareT t] #[.string t.nm, .slice t.ca t.nc t.cc, .slice none 0 0, .slice none 0 0, .slice none 0 0, .slice none 0 0] 39 rfl rfl (by decide) (by simp) | exact (rdg_new t6len _ [bareT t] #[.string t.nm, .slice t.ca t.nc t.cc, .slice none 0 0, .slice none 0 0, .slice none 0 0, .slice none 0 0] 39 rfl rfl (by decide) (by simp)).below bn1.out | exact RdG.below (w := (w5.alloc (.cells #[.string t.nm, .slice t.ca t.nc t.cc, .slice none 0 0, .slice none 0 0, .slice none 0 0, .slice none 0 0] 39)).drew) (rdg_new t6len w5 [bareT t] #[.string t.nm, .slice t.ca t.nc t.cc, .slice none 0 0, .slice none 0 0, .slice none 0 0, .slice none 0 0] 39 rfl rfl (by decide) rfl) bn1.out | exact RdG.below (w := w5.drew.alloc (.cells #[.string t.nm, .slice t.ca t.nc t.cc, .slice none 0 0, .slice none 0 0, .slice none 0 0, .slice none 0 0] 39)) (rdg_new t6len w5.drew [bareT t] #[.string t.nm, .slice t.ca t.nc t.cc, .slice none 0 0, .slice none 0 0, .slice none 0 0, .slice none 0 0] 39 rfl rfl (by decide) rfl) bn1.out
               · omega
               · first | assumption | exact Below.alloc (by assumption) sz1 _
               · first | exact sz1 | exact Nat.le_trans sz1 (by simp)
               intro v2 w7 own2 bb sz2 bn2
               clear bn2
               obtain ⟨AA2, cc2, rfl, _⟩ := RdG.own_ t6len (by omega) own2
               have OW2 := Lib.hid own2
               clear own2)
            | ((try go_split_ands); refine step_appT (W0 := w5) rfl (.tmp 47) (.tmp 52) rfl w5.heap.size (.slice AA2 (k + 1) cc2) (k + 1) (l.take k ++ [bareT t]) bt q2 m2 c2 (l.drop (k + 1)) rfl rfl OW2.out (HD.out _ ?_) ?_ ?_ sz2 ?_
               · assumption
               · have := HM2.out; omega
               · assumption
               intro v3 w8 own3 bb sz3 bn3
               clear bn3
               rw [HM2.out] at own3
               obtain ⟨AA3, cc3, rfl, _⟩ := RdG.own_ t6len (by omega) own3
               have OW3 := Lib.hid own3
               clear own3))
        all_goals
          go_split_ands
          have hB8 : Below w5.heap.size w5 w8 := by assumption
          have hO8 := OW3.out
          rw [show l.take k ++ [bareT t] ++ l.drop (k + 1) = lessL l k t from rfl] at hO8
          have HO8 := Lib.hid hO8
          have HB8 := Lib.hid hB8
          clear hO8 hB8
          go_wp2_with fail
          go_meet
          exact ⟨HO8, HB8⟩
      case rest =>
      obtain ⟨hO8, hB8⟩ := hcut
      obtain ⟨w8, rfl⟩ : ∃ z, z = wc := ⟨_, rfl⟩
      obtain ⟨A8, c8, rfl, hr8⟩ := RdG.own_ t6len (by omega) hO8.out
      have HR8 := Lib.hid hr8
      have hcap8 := hr8.cap
      have SL3 := fun W => run_fulltabs (A := A8) (n := n) (c := c8) hcap8 W
      have HB8 := Lib.hid (below_then HB5.out hB8.out)
      have HRW8 : Hid (∀ x ∈ lessL l k t, x.Reads w8) := by
        show ∀ x ∈ _, _
        intro x hx
        have ht0 := HX.out
        simp only [lessL, List.mem_append, List.mem_singleton] at hx
        rcases hx with (hx | rfl) | hx
        · exact (HS5.out.each x (List.mem_of_mem_take hx)).below hB8.out
        · exact HTR.out.below hB8.out
        · exact (HS5.out.each x (List.mem_of_mem_drop hx)).below hB8.out
      have HTR8 := Lib.hid (HTR.out.below hB8.out)
      have R8 := Lib.hid (row_below R5.out hB8.out)
      obtain ⟨tw, htw⟩ : ∃ tw, Hid (rightE (lessL l k t ++ [bareT t]) = tw) := ⟨_, rfl⟩
      have htw2 : Hid (n < 16 ∧ tw = 5 ∨ n = 16 ∧ tw = 2) := by
        show _ ∨ _
        rw [← htw.out]
        have hl := HL.out
        by_cases h16 : n = 16
        · exact .inr ⟨h16, less_great HX.out (by omega)⟩
        · exact .inl ⟨by omega, less_twice hE.out HX.out (by omega)⟩
      have CW : Hid (∀ A' c' W, Below w8.heap.size w8 W → RdTb W A' (n + 1) c' (lessL l k t ++ [bareT t]) → Calls Try.prog 14 #[.agg #[.slice A' (n + 1) c']] W fun e w' => e = .returned (.int .i64 tw) ∧ Below W.heap.size W w') := fun A' c' W hW hr =>
        right11_is A' (n + 1) c' (lessL l k t ++ [bareT t]) tw W ⟨hr, fun x hx => by
          rcases List.mem_append.1 hx with hx | hx
          · exact (HRW8.out x hx).below hW
          · obtain rfl := List.mem_singleton.1 hx
            exact HTR8.out.below hW⟩ htw.out
      have CL : Hid (∀ W, Below w8.heap.size w8 W → Calls Try.prog 14 #[.agg #[.slice A8 n c8]] W fun e w' => e = .returned (.int .i64 0) ∧ Below W.heap.size W w') := fun W hW =>
        right11_is A8 n c8 (lessL l k t) 0 W ⟨HR8.out.below hW, fun x hx => (HRW8.out x hx).below hW⟩ (less_right hE.out HX.out)
      have HROW : Hid (∀ W, Below w8.heap.size w8 W → RdTb W A8 n n (lessL l k t)) := fun W hW => by
        have := (HR8.out.below hW).upto (Nat.le_refl n) (Nat.le_refl n) hcap8
        rwa [List.take_of_length_le (by rw [less_len HX.out, HL.out]; exact Nat.le_refl _)] at this
      have hnn : n + 1 ≤ 4294967296 := by omega
      clear hO8 hB8 hr8 KA hS0 SL1 SL2 HD HK HS5 S5 HTR R5 HB5 B5 HS3 R3 htw
      have KA : Hid (∀ W, Below w8.heap.size w8 W → (Below w8.heap.size w8 W ∧ W.cell? ⟨g5, 0, none⟩ = some (.string t.nm) ∧ W.cell? ⟨g5, 1, none⟩ = some (.slice t.ca t.nc t.cc) ∧ W.cell? ⟨g5, 2, none⟩ = some (.slice none 0 0) ∧ W.cell? ⟨g5, 3, none⟩ = some (.slice none 0 0) ∧ W.cell? ⟨g5, 4, none⟩ = some (.slice none 0 0) ∧ W.cell? ⟨g5, 5, none⟩ = some (.slice none 0 0))) := by
        intro W hb
        obtain ⟨e0, e1, e2, e3, e4, e5⟩ := tab_row (row_below R8.out hb)
        exact ⟨hb, e0, e1, e2, e3, e4, e5⟩
      have hS0 := KA.out w8.drew (Below.refl _ _).drew
      go_wp2_with fail
      go_region_held3 (fun W => Below w8.heap.size w8 W ∧ W.cell? ⟨g5, 0, none⟩ = some (.string t.nm) ∧ W.cell? ⟨g5, 1, none⟩ = some (.slice t.ca t.nc t.cc) ∧ W.cell? ⟨g5, 2, none⟩ = some (.slice none 0 0) ∧ W.cell? ⟨g5, 3, none⟩ = some (.slice none 0 0) ∧ W.cell? ⟨g5, 4, none⟩ = some (.slice none 0 0) ∧ W.cell? ⟨g5, 5, none⟩ = some (.slice none 0 0))
        (first
          | (go_split_ands; exact KA.out _ (below_then (by assumption) bb))
          | (go_split_ands; with_reducible refine KA.out _ (below_new ?_ _); first | assumption | (with_reducible refine Below.drew ?_; assumption))
          | (go_split_ands; with_reducible refine KA.out _ (Below.drew ?_); first | assumption | (with_reducible refine below_new ?_ _; assumption))
          | (exact KA.out _ (below_new (Below.refl _ _) _).drew)
          | (go_split_ands; exact KA.out _ (below_new (by assumption) _).drew)
          | (go_split_ands; exact KA.out _ (by assumption)))
        (first
          | ((try go_split_ands); refine step_fullT (by rfl) (.tmp 59) (.tmp 61) (by rfl) A8 n (lessL l k t) _ 0 1 1 [bareT t] (by rfl) (by rfl) (HROW.out _ (by first | assumption | exact (below_new (Below.refl _ _) _).drew | exact Below.drew (by assumption) | exact below_new (by assumption) _ | exact (below_new (by assumption) _).drew | exact below_new (Below.drew (by assumption)) _)) (rdg_new t6len _ [bareT t] #[.string t.nm, .slice t.ca t.nc t.cc, .slice none 0 0, .slice none 0 0, .slice none 0 0, .slice none 0 0] 39 rfl rfl (by decide) (by simp)) (by decide) (by omega) ?_; intro A4 c4 w9 rd4 bb; have RD4 := Lib.hid rd4)
          | (go_at_call 14; refine (CW.out _ _ _ (by go_split_ands; assumption) (by first | exact RD4.out | exact RD4.out.below (by assumption) | exact RD4.out.drew)).mono ?_; rintro e wx ⟨rfl, bb⟩))
      all_goals
        go_split_ands
        have hB9 : Below w8.heap.size w8 wx := by assumption
        have HB9 := Lib.hid hB9
        have HB10 := Lib.hid (below_then HB8.out hB9)
        clear hB9
        go_wp2_with fail
        refine (alive11_any _).mono ?_
        rintro e wz ⟨rfl, bz⟩
        have HB11 := Lib.hid (below_then HB9.out bz)
        have HB12 := Lib.hid (below_then HB10.out bz)
        clear bz
        have CL2 := Lib.hid (CL.out wz HB11.out)
        go_wp2_with fail
        refine CL2.out.mono ?_
        rintro e wv ⟨rfl, bv⟩
        have HB13 := Lib.hid (below_then HB12.out bv)
        clear bv CL2
        rcases htw2.out with ⟨_, rfl⟩ | ⟨hn9, rfl⟩
        · go_wp2_with fail
          go_ret
          exact ⟨rfl, HB13.out⟩
        · have q9 : ((n : Int) == 16) = true := by simp; omega
          clear hn9
          go_wp2_with fail
          go_ret
          exact ⟨rfl, HB13.out⟩

set_option maxRecDepth 100000 in
theorem contract (H : Type) (enc : TypeId × Value → H) (W : World) (base : Nat) (args : Array Value) (ds gs : List (DataW H)) (before : List MemPlace)
    (hval : ∀ (j : Nat) t v, Try.f8.params[j]? = some t → args[j]? = some v → Value.okWide Try.prog W .any base t v)
    (hW : DataW.Whole enc Try.prog Try.f8.params.toList Rows.schemaFewerSpec.vars false W args.toList ds gs before)
    (hsz : (DataW.weightsEach Try.prog (Try.f8.params.toList ++ Rows.schemaFewerSpec.plain.varTypes Try.prog) (ds ++ gs)).all (· ≤ reachBytes) = true) :
    Calls Try.prog 8 args W fun e W' => ∃ v, e = .returned v ∧ Rows.schemaFewerSpec.post enc Try.prog Try.f8 false true false false W args v W' := by
  have hlt : ∀ x ∈ before, x.block < W.heap.size := fun x hx => by simpa using hW.lt x hx
  refine law_step 4 Try.laid_ (by kernel_rfl) rfl Try.underlying4 rfl hW (fun xs hx => ?_) ?_
  · match xs, hx with
    | [d0, d1], _ => rfl
  · obtain ⟨p, q, hA0, hV, rfl, _, _⟩ := hW
    have hA : DataW.TrodAll enc Try.prog W 0 (fun _ => true) true Try.f8.params.toList args.toList ds p := hA0
    rw [Try.params8] at hA hval hsz
    obtain ⟨v0, vs0, d0, ds0, p0, q0, e0, rfl, rfl, h0, r0⟩ := trodAll_cons hA
    obtain ⟨v1, vs1, d1, ds1, p1, q1, e1, rfl, rfl, h1, r1⟩ := trodAll_cons r0
    obtain ⟨rfl, rfl, rfl⟩ := trodAll_nil r1
    subst e1
    obtain rfl : args = #[v0, v1] := by cases args; simp_all
    clear e0 hA0
    have hw0 : ∀ x ∈ d0.weights Try.prog 26, x ≤ reachBytes := fun x hx => by simpa using List.all_eq_true.1 hsz _ (DataW.weights_mem_each (j := 0) rfl rfl x hx)
    obtain ⟨A0, n0, c0, l0, rfl, rd0, sm0⟩ := open_schema (hval 0 26 v0 rfl rfl) h0 hw0
    obtain ⟨at1, rfl, rfl, rfl, w1⟩ := open_int Try.underlying5 (hval 1 5 v1 rfl rfl) h1
    obtain ⟨lo1, hi1⟩ := wf_u8 w1
    exact walk A0 n0 c0 l0 at1 W rd0 sm0 lo1 hi1

set_option maxRecDepth 100000 in
theorem lifted (os : Os) (started : os.Started) (H : Type) (enc : TypeId × Value → H) :
    ReturnsInHanded {} Try.checked os 8 .any (Rows.schemaFewerSpec.pre6 enc Try.prog Try.f8 Rows.schemaFewerRow.domain false) (Rows.schemaFewerSpec.post enc Try.prog Try.f8 false true false false) := by
  refine returnsInHanded_of_change_sized (C := Try.checked) Try.own_ started (by kernel_rfl) Try.func8
    (ChangeSpec.witness6 (enc := enc) (C := Try.checked) false ⟨#[], #[.agg #[.slice none 0 0], .int .u8 0], []⟩ 8 (by kernel_rfl) (by kernel_rfl) (by kernel_rfl) (by kernel_rfl)) ?_
  intro W base args ds gs before hval hW _ hsz _
  exact contract H enc W base args ds gs before hval hW hsz

theorem holds : Rows.SchemaFewerSaid :=
  OpenClaim.holds_of_wide 8 Try.f8 rfl rfl rfl rfl rfl rfl rfl ⟨rfl, rfl, rfl, rfl, rfl⟩ rfl rfl rfl rfl rfl (by kernel_rfl) Try.func8 (by kernel_rfl)
    (of_decide_eq_true (by kernel_rfl)) (by unfold Func.isWrapper; first | (rw [if_pos (by decide +kernel)]; kernel_rfl) | (rw [if_neg (by decide +kernel)]; exact ⟨rfl, rfl⟩))
    (fun os started H enc _ => lifted os started H enc)
end Go.Proofs.Ytogfnjlhfbpneaa.schemaFewer
