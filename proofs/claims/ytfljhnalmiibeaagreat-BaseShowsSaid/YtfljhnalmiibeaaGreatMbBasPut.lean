/- Layer 13: lines with one put; Put, Drop, Get, New. -/
import Derived.Test.YtfljhnalmiibeaaGreatMbBasCmp
namespace Go.Proofs.YtfljhnalmiibeaaGreat
set_option maxRecDepth 100000
open Go.RowKit
set_option maxHeartbeats 3200000 in
theorem with_any (A : Option Addr) (n c : Nat) (l : List LQ) (x : LnR) (y : LQ) (w0 w : World) (h : RdLs w0 A n c l) (hw : Below w0.heap.size w0 w) (hn : n ≤ 4294967000) (hx : LineR w0 x y) (hs : LineOk y) :
    Calls Tryz.prog 38 #[.slice A n c, x.agg] w fun e w' => ∃ z : SlR, e = .returned (.slice z.a z.n z.c) ∧ (∀ U, Agree w0.heap.size w.heap.size w' U → RdLs U z.a z.n z.c (putL l y)) ∧ Below w.heap.size w w' := by
  have hlen := h.len
  have hcap := h.cap
  obtain ⟨w1, hw1⟩ : ∃ w1, w1 = w.alloc (lineBox x) := ⟨_, rfl⟩
  have HW := Lib.hid hw1
  have b1 : Below w.heap.size w w1 := by rw [hw1]; exact below_new (Below.refl _ _) _
  have r0 : w1.heap[w.heap.size]? = some (lineBox x) := by rw [hw1]; exact heap_alloc_new _ _
  have HB := Lib.hid b1; have R0 := Lib.hid r0
  have HW0 := Lib.hid hw
  have C := Lib.hid (linesPlace_any A n c l x.key w1 (h.below lineR_keeps (below_then hw b1)))
  obtain ⟨L, h1, h2, h3⟩ := h
  have H1 := Lib.hid h1; have HA : Hid (AllR w0 L l) := ⟨h2, h3⟩
  obtain ⟨f, hf⟩ : ∃ f, Hid (placeK l x.key = f) := ⟨_, rfl⟩
  have hfn : f ≤ n := by rw [← hf.out, ← hlen]; exact placeF_le _ _
  rw [hf.out] at C
  have hk : x.key = y.key := hx.1
  obtain ⟨d, hd⟩ : ∃ d, Hid (putL l y = d) := ⟨_, rfl⟩
  rw [hd.out]
  have OW : Hid (∀ W, Below w.heap.size w W → Calls Tryz.prog 44 #[.agg #[.int .i64 x.key, .slice x.ca x.cn x.cc, .slice x.ba x.bn x.bc]] W fun e w' => ∃ z : LnR, e = .returned z.agg ∧ (∀ U, Agree w0.heap.size w.heap.size w' U → LineR U z y) ∧ Below W.heap.size W w') := by
    show ∀ W, _; intro W hW
    exact (own_any x y w0 W hx (below_then hw hW) hs).mono fun e w' ⟨z, h1, h2, _, h4⟩ => ⟨z, h1, fun U hU => h2 U (hU.mono (Nat.le_refl _) hW.size), h4⟩
  have y0 : (0 : Int) ≤ (f : Int) := by omega
  have hle : n ≤ 9223372036854775807 := by omega
  obtain ⟨p0, p1, p2⟩ := line_row r0
  -- the last region, at whichever places
  have LAST : Hid (∀ (F Q : Nat) (W : World), F ≤ n → Q ≤ n → F ≤ Q → Below w1.heap.size w1 W → d = l.take F ++ y :: l.drop Q →
      (∀ W, (Instr.slice 81 (.slice A n c) none (some (.int .i64 F)) none).run Tryz.prog W = .ok (.slice A F c) W) ∧
      (∀ W, (Instr.slice 81 (.slice A n c) (some (.int .i64 Q)) none none).run Tryz.prog W = .ok (.slice (fromG 3 A c Q) (n - Q) (c - Q)) W) ∧
      (∀ V z, Below W.heap.size W V → (∀ U, Agree w0.heap.size w.heap.size V U → LineR U z y) → Calls Tryz.prog 67 #[.slice (some ⟨V.heap.size + 1, 0, none⟩) 3 3] ((V.alloc (lineBox z)).alloc (catBox3 (.slice A F c) (.slice (some ⟨V.heap.size, 0, none⟩) 1 1) (.slice (fromG 3 A c Q) (n - Q) (c - Q)))) fun e w' =>
        ∃ u : SlR, e = .returned (.slice u.a u.n u.c) ∧ (∀ U, Agree w0.heap.size w.heap.size w' U → RdLs U u.a u.n u.c d) ∧ Below w.heap.size w w' ∧ Below V.heap.size V w')) := by
    show ∀ F Q W, _
    intro F Q W hF hQ hFQ hW he
    refine ⟨run_uptoG (P := Tryz.prog) Tryz.linesT Tryz.linesZ (by omega), run_fromG (P := Tryz.prog) Tryz.linesT Tryz.linesZ (by omega) hcap, fun V z hV hz => ?_⟩
    have bV : Below w.heap.size w V := below_then (below_then HB.out hW) hV
    refine (cat3_any A n c L l F Q hF hQ hFQ hn y w.heap.size w0 V (below_then HW0.out bV) bV.size H1.out HA.out z hz).mono ?_
    rintro e w' ⟨u, rfl, hu, hb⟩
    exact ⟨u, rfl, by rw [he]; exact hu, below_then bV hb, hb⟩
  have z1 : IntKind.i64.wrap ((f : Int) + 1) = (f : Int) + 1 := wrap_is (by omega)
  by_cases hfe : f = n
  · obtain ⟨q, hq⟩ : ∃ q, Hid (placeF (keyOver y.key) l = q) := ⟨_, rfl⟩
    have hqn : q ≤ n := by rw [← hq.out, ← hlen]; exact placeF_le _ _
    have HD : Hid (d = l.take q ++ y :: l.drop q) := by show _ = _; rw [← hd.out]; unfold putL; rw [if_pos (by rw [← hk, hf.out, hlen]; exact hfe), hq.out]
    have PO : Hid (∀ W, Below w1.heap.size w1 W → Calls Tryz.prog 65 #[.slice A n c, .func (.func 66) #[] #[.pointer (some ⟨w.heap.size, 0, none⟩)]] W fun e w' => e = .returned (.int .i64 (q : Nat)) ∧ Below W.heap.size W w') := by
      show ∀ W, _; intro W hW
      have := placeOfL_any 66 #[.pointer (some ⟨w.heap.size, 0, none⟩)] (fun u => decide (x.key < u.key)) A n c L W Tryz.egLinesWith (H1.out.below (below_then HW0.out (below_then HB.out hW))) (withF1_any x w.heap.size W (row_below R0.out hW))
      rwa [raw_place (l := l) (fun u => decide (x.key < u.key)) (keyOver y.key) HA.out.1 (fun j u v hu hv => by rw [hk, (HA.out.2 j u v hu hv).1]), hq.out] at this
    have e1 : ((f : Int) == (n : Int)) = true := by rw [hfe]; simp
    have e2 : (f : Int) = (n : Int) := by omega
    have y1 : (0 : Int) ≤ (q : Int) := by omega
    have y2 : (q : Int) ≤ (n : Int) := by omega
    clear h1 h2 h3 hx b1 r0 hw1 hfe hk hw
    go_enter Tryz.func38, Tryz.ntmps38
    go_upto_region 1 with fail
    rw [show w.alloc (lineBox x) = w1 from HW.out.symm]
    clear HW
    go_upto_region 6 with (first | (go_at_call 64; refine C.out.mono ?_; rintro e w2 ⟨rfl, b2⟩; have B2 := Lib.hid b2; clear b2) | (go_at_call 65; refine (PO.out _ B2.out).mono ?_; rintro e w3 ⟨rfl, b3⟩))
    have B3 := Lib.hid (below_then B2.out b3)
    obtain ⟨s1, s2, CT⟩ := LAST.out q q w3 hqn hqn (Nat.le_refl _) B3.out HD.out
    have HCT := Lib.hid CT
    have R3 := Lib.hid (row_below R0.out B3.out)
    have HG0 : Hid (w.heap.size < w3.heap.size) := (Array.getElem?_eq_some_iff.1 R3.out).1
    clear C PO LAST b3 p0 p1 p2 CT
    obtain ⟨p0, p1, p2⟩ := line_row R3.out
    have hS0 : w3.heap[w.heap.size]? = some (lineBox x) := R3.out
    have K : Hid (∀ W W' : World, (W.cell? ⟨w.heap.size, 0, none⟩ = some (.int .i64 x.key) ∧ W.cell? ⟨w.heap.size, 1, none⟩ = some (.slice x.ca x.cn x.cc) ∧ W.cell? ⟨w.heap.size, 2, none⟩ = some (.slice x.ba x.bn x.bc) ∧ w.heap.size < W.heap.size) → Below W.heap.size W W' → (W'.cell? ⟨w.heap.size, 0, none⟩ = some (.int .i64 x.key) ∧ W'.cell? ⟨w.heap.size, 1, none⟩ = some (.slice x.ca x.cn x.cc) ∧ W'.cell? ⟨w.heap.size, 2, none⟩ = some (.slice x.ba x.bn x.bc) ∧ w.heap.size < W'.heap.size)) := by
      show ∀ W W', _
      rintro W W' ⟨k1, k2, k3, k4⟩ hb
      exact ⟨(hb.cell (p := ⟨_, 0, none⟩) k4).trans k1, (hb.cell (p := ⟨_, 1, none⟩) k4).trans k2, (hb.cell (p := ⟨_, 2, none⟩) k4).trans k3, Nat.lt_of_lt_of_le k4 hb.size⟩
    have hS0 := (⟨p0, p1, p2, HG0.out⟩ : w3.cell? ⟨w.heap.size, 0, none⟩ = some (.int .i64 x.key) ∧ w3.cell? ⟨w.heap.size, 1, none⟩ = some (.slice x.ca x.cn x.cc) ∧ w3.cell? ⟨w.heap.size, 2, none⟩ = some (.slice x.ba x.bn x.bc) ∧ w.heap.size < w3.heap.size)
    clear p0 p1 p2
    go_region_held3 (fun W => W.cell? ⟨w.heap.size, 0, none⟩ = some (.int .i64 x.key) ∧ W.cell? ⟨w.heap.size, 1, none⟩ = some (.slice x.ca x.cn x.cc) ∧ W.cell? ⟨w.heap.size, 2, none⟩ = some (.slice x.ba x.bn x.bc) ∧ w.heap.size < W.heap.size)
      (first
        | exact K.out _ _ hS0 ((Below.refl _ _).drew)
        | exact K.out _ _ hSy bb
        | exact K.out _ _ (by assumption) bb
        | exact K.out _ _ (by assumption) (below_new (Below.refl _ _) _))
      (first
        | (go_at_call 44; refine (OW.out _ (by first | exact (below_then HB.out B3.out).drew | exact below_then HB.out B3.out)).mono ?_; rintro e wy ⟨z, rfl, hz, bb⟩; have hbq := below_then (Below.refl w3.heap.size w3).drew bb; have hSy := K.out _ _ hS0 hbq)
        | (go_at_call 67; refine (HCT.out _ _ hbq hz).mono ?_; rintro e wz ⟨u, rfl, hu, bf, bb⟩))
    all_goals
      have HU := Lib.hid hu
      have BF := Lib.hid bf
      go_wp2_with fail
      go_ret
      exact ⟨u, rfl, HU.out, BF.out⟩
  · have HD : Hid (d = l.take f ++ y :: l.drop (f + 1)) := by show _ = _; rw [← hd.out]; unfold putL; rw [if_neg (by rw [← hk, hf.out, hlen]; exact hfe), ← hk, hf.out]
    have e1 : ((f : Int) == (n : Int)) = false := by rw [beq_eq_false_iff_ne]; omega
    have e2 : ¬ (f : Int) = (n : Int) := by omega
    have y2 : (f : Int) + 1 ≤ (n : Int) := by omega
    have y3 : (0 : Int) ≤ (f : Int) + 1 := by omega
    have hf1 : f + 1 ≤ n := by omega
    clear h1 h2 h3 hx b1 r0 hw1 hfe hk hw
    go_enter Tryz.func38, Tryz.ntmps38
    go_upto_region 1 with fail
    rw [show w.alloc (lineBox x) = w1 from HW.out.symm]
    clear HW
    go_upto_region 6 with (go_at_call 64; refine C.out.mono ?_; rintro e w2 ⟨rfl, b2⟩)
    have B2 := Lib.hid b2
    obtain ⟨s1, s2, CT⟩ := LAST.out f (f + 1) w2 hfn hf1 (Nat.le_succ _) B2.out HD.out
    have s2' : ∀ W, (Instr.slice 81 (.slice A n c) (some (.int .i64 ((f : Int) + 1))) none none).run Tryz.prog W = .ok (.slice (fromG 3 A c (f + 1)) (n - (f + 1)) (c - (f + 1))) W := s2
    clear s2
    generalize fromG 3 A c (f + 1) = A3 at s2' CT
    generalize n - (f + 1) = n3 at s2' CT
    generalize c - (f + 1) = c3 at s2' CT
    have HCT := Lib.hid CT
    have R2 := Lib.hid (row_below R0.out B2.out)
    have HG0 : Hid (w.heap.size < w2.heap.size) := (Array.getElem?_eq_some_iff.1 R2.out).1
    clear C LAST b2 p0 p1 p2 CT
    obtain ⟨p0, p1, p2⟩ := line_row R2.out
    have hS0 : w2.heap[w.heap.size]? = some (lineBox x) := R2.out
    have K : Hid (∀ W W' : World, (W.cell? ⟨w.heap.size, 0, none⟩ = some (.int .i64 x.key) ∧ W.cell? ⟨w.heap.size, 1, none⟩ = some (.slice x.ca x.cn x.cc) ∧ W.cell? ⟨w.heap.size, 2, none⟩ = some (.slice x.ba x.bn x.bc) ∧ w.heap.size < W.heap.size) → Below W.heap.size W W' → (W'.cell? ⟨w.heap.size, 0, none⟩ = some (.int .i64 x.key) ∧ W'.cell? ⟨w.heap.size, 1, none⟩ = some (.slice x.ca x.cn x.cc) ∧ W'.cell? ⟨w.heap.size, 2, none⟩ = some (.slice x.ba x.bn x.bc) ∧ w.heap.size < W'.heap.size)) := by
      show ∀ W W', _
      rintro W W' ⟨k1, k2, k3, k4⟩ hb
      exact ⟨(hb.cell (p := ⟨_, 0, none⟩) k4).trans k1, (hb.cell (p := ⟨_, 1, none⟩) k4).trans k2, (hb.cell (p := ⟨_, 2, none⟩) k4).trans k3, Nat.lt_of_lt_of_le k4 hb.size⟩
    have hS0 := (⟨p0, p1, p2, HG0.out⟩ : w2.cell? ⟨w.heap.size, 0, none⟩ = some (.int .i64 x.key) ∧ w2.cell? ⟨w.heap.size, 1, none⟩ = some (.slice x.ca x.cn x.cc) ∧ w2.cell? ⟨w.heap.size, 2, none⟩ = some (.slice x.ba x.bn x.bc) ∧ w.heap.size < w2.heap.size)
    clear p0 p1 p2
    go_region_held3 (fun W => W.cell? ⟨w.heap.size, 0, none⟩ = some (.int .i64 x.key) ∧ W.cell? ⟨w.heap.size, 1, none⟩ = some (.slice x.ca x.cn x.cc) ∧ W.cell? ⟨w.heap.size, 2, none⟩ = some (.slice x.ba x.bn x.bc) ∧ w.heap.size < W.heap.size)
      (first
        | exact K.out _ _ hS0 ((Below.refl _ _).drew)
        | exact K.out _ _ hSy bb
        | exact K.out _ _ (by assumption) bb
        | exact K.out _ _ (by assumption) (below_new (Below.refl _ _) _))
      (first
        | (go_at_call 44; refine (OW.out _ (by first | exact (below_then HB.out B2.out).drew | exact below_then HB.out B2.out)).mono ?_; rintro e wy ⟨z, rfl, hz, bb⟩; have hbq := below_then (Below.refl w2.heap.size w2).drew bb; have hSy := K.out _ _ hS0 hbq)
        | (go_at_call 67; refine (HCT.out _ _ hbq hz).mono ?_; rintro e wz ⟨u, rfl, hu, bf, bb⟩))
    all_goals
      have HU := Lib.hid hu
      have BF := Lib.hid bf
      go_wp2_with fail
      go_ret
      exact ⟨u, rfl, HU.out, BF.out⟩
set_option maxHeartbeats 1600000 in
theorem line_any (A : Option Addr) (n c : Nat) (l : List LQ) (k : Int) (w0 w : World) (h : RdLs w0 A n c l) (hw : Below w0.heap.size w0 w) (hs : ∀ y ∈ l, LineOk y) :
    Calls Tryz.prog 51 #[.slice A n c, .int .i64 k] w fun e w' => ∃ z : LnR, e = .returned (.tuple #[z.agg, .bool (getL l k).isSome]) ∧ (∀ U, Agree w0.heap.size w.heap.size w' U → LineR U z ((getL l k).getD noLine)) ∧ Below w.heap.size w w' := by
  have hlen := h.len
  have hle := h.le
  obtain ⟨w1, hw1⟩ : ∃ w1, w1 = w.alloc (lineBox ⟨0, none, 0, 0, none, 0, 0⟩) := ⟨_, rfl⟩
  have HW := Lib.hid hw1
  have b1 : Below w.heap.size w w1 := by rw [hw1]; exact below_new (Below.refl _ _) _
  have r0 : w1.heap[w.heap.size]? = some (lineBox ⟨0, none, 0, 0, none, 0, 0⟩) := by rw [hw1]; exact heap_alloc_new _ _
  have HB := Lib.hid b1; have R0 := Lib.hid r0; have HW0 := Lib.hid hw
  have C := Lib.hid (linesPlace_any A n c l k w1 (h.below lineR_keeps (below_then hw b1)))
  obtain ⟨f, hf⟩ : ∃ f, Hid (placeK l k = f) := ⟨_, rfl⟩
  have hfn : f ≤ n := by rw [← hf.out, ← hlen]; exact placeF_le _ _
  rw [hf.out] at C
  obtain ⟨o, ho⟩ : ∃ o, Hid (getL l k = o) := ⟨_, rfl⟩
  rw [ho.out]
  have y0 : (0 : Int) ≤ (f : Int) := by omega
  clear hw1 b1 r0
  by_cases hfe : f = n
  · have HO : Hid (o = none) := by show _ = _; rw [← ho.out]; exact getL_place.2 (by rw [hf.out, hlen]; exact hfe)
    have e1 : ((f : Int) == (n : Int)) = true := by rw [hfe]; simp
    have e2 : (f : Int) = (n : Int) := by omega
    clear hfe
    go_enter Tryz.func51, Tryz.ntmps51
    go_upto_region 1 with fail
    rw [show w.alloc (lineBox ⟨0, none, 0, 0, none, 0, 0⟩) = w1 from HW.out.symm]
    clear HW
    go_wp2_with (go_at_call 64; refine C.out.mono ?_; rintro e w2 ⟨rfl, b2⟩; have r2 := row_below R0.out b2; obtain ⟨p0, p1, p2⟩ := line_row r2; have f0 := frozen_row r2)
    refine bodyPost_ret (v := .tuple #[LnR.agg ⟨0, none, 0, 0, none, 0, 0⟩, .bool false]) (results_row_tmp rfl _ _ w.heap.size 37 _ (0, 0) _ rfl (set3row r2) Tryz.underlying37 rfl (by kernel_rfl) rfl) rfl ?_
    rw [HO.out]
    exact ⟨⟨0, none, 0, 0, none, 0, 0⟩, rfl, fun U _ => ⟨rfl, RdR.nil_ _, RdG.nil_ _⟩, below_put (below_put (below_put (below_then HB.out b2) _ _ _ (Nat.le_refl _)) _ _ _ (Nat.le_refl _)) _ _ _ (Nat.le_refl _)⟩
  · have hlt : f < n := by omega
    obtain ⟨bb, oo, x, y, rfl, hb, hx, hr, hc⟩ := h.line13 hlt
    have HO : Hid (o = some y) := by show _ = _; rw [← ho.out]; unfold getL; rw [hf.out]; exact hx
    have OW : Hid (∀ W, Below w.heap.size w W → Calls Tryz.prog 44 #[.agg #[.int .i64 x.key, .slice x.ca x.cn x.cc, .slice x.ba x.bn x.bc]] W fun e w' => ∃ z : LnR, e = .returned z.agg ∧ (∀ U, Agree w0.heap.size W.heap.size w' U → LineR U z y) ∧ Below W.heap.size W w') := by
      show ∀ W, _; intro W hW
      exact (own_any x y w0 W hr (below_then hw hW) (hs y (List.mem_of_getElem? hx))).mono fun e w' ⟨z, h1, h2, _, h4⟩ => ⟨z, h1, h2, h4⟩
    have HC := Lib.hid hc
    have e1 : ((f : Int) == (n : Int)) = false := by rw [beq_eq_false_iff_ne]; omega
    have e2 : ¬ (f : Int) = (n : Int) := by omega
    have y1 : (f : Int) < (n : Int) := by omega
    clear hfe hc hr hx hb
    go_enter Tryz.func51, Tryz.ntmps51
    go_upto_region 1 with fail
    rw [show w.alloc (lineBox ⟨0, none, 0, 0, none, 0, 0⟩) = w1 from HW.out.symm]
    clear HW
    go_wp2_with (first | (go_at_call 64; refine C.out.mono ?_; rintro e w2 ⟨rfl, b2⟩; have B2 := Lib.hid (below_then HB.out b2); have R2 := Lib.hid (row_below R0.out b2); obtain ⟨d0, d1, d2⟩ := HC.out _ (below_then HW0.out B2.out); clear b2) | (go_at_call 44; refine (OW.out _ B2.out).mono ?_; rintro e w3 ⟨z, rfl, hz, b3⟩; have r3 := row_below R2.out b3; obtain ⟨p0, p1, p2⟩ := line_row r3; have f0 := frozen_row r3))
    refine bodyPost_ret (v := .tuple #[z.agg, .bool true]) (results_row_tmp rfl _ _ w.heap.size 37 _ (0, 0) _ rfl (set3row r3) Tryz.underlying37 rfl (by kernel_rfl) rfl) rfl ?_
    rw [HO.out]
    have hsz : w.heap.size < w2.heap.size := (Array.getElem?_eq_some_iff.1 R2.out).1
    have hlo : w0.heap.size ≤ w.heap.size := HW0.out.size
    refine ⟨z, rfl, fun U hU => hz U ?_, below_put (below_put (below_put (below_then B2.out b3) _ _ _ (Nat.le_refl _)) _ _ _ (Nat.le_refl _)) _ _ _ (Nat.le_refl _)⟩
    exact ((((Agree.refl w0.heap.size w2.heap.size w3).put w.heap.size 0 _ ⟨hlo, hsz⟩).put w.heap.size 1 _ ⟨hlo, hsz⟩).put w.heap.size 2 _ ⟨hlo, hsz⟩).trans (hU.mono (Nat.le_refl _) (by omega))
theorem rep_cells : ∀ n : Nat, (List.replicate n (⟨none, 0, 0⟩ : SlR)).flatMap SlR.cells = List.replicate n (.slice none 0 0)
  | 0 => rfl
  | n + 1 => by rw [List.replicate_succ, List.flatMap_cons, rep_cells n, List.replicate_succ]; rfl
set_option maxHeartbeats 1600000 in
theorem new13_any (A : Option Addr) (n c : Nat) (w : World) (hn : n ≤ 4294967296) :
    Calls Tryz.prog 15 #[.agg #[.slice A n c]] w fun e w' => ∃ x : SlR, e = .returned (.agg #[.slice x.a x.n x.c]) ∧ (∀ U, Agree w.heap.size w.heap.size w' U → RdB U x.a x.n x.c (List.replicate n [])) ∧ Below w.heap.size w w' := by
  obtain ⟨w1, hw1⟩ : ∃ w1, w1 = (w.alloc (.cells #[.slice A n c] 24)).alloc (baseBox none 0 0) := ⟨_, rfl⟩
  have HW := Lib.hid hw1
  have r0 : w1.heap[w.heap.size]? = some (.cells #[.slice A n c] 24) := by rw [hw1]; exact row_below (heap_alloc_new _ _) (below_new (Below.refl _ _) _)
  have r1 : w1.heap[w.heap.size + 1]? = some (baseBox none 0 0) := by rw [hw1]; have := heap_alloc_new (w.alloc (.cells #[.slice A n c] 24)) (baseBox none 0 0); rwa [World.size_alloc] at this
  have b1 : Below w.heap.size w w1 := by rw [hw1]; exact below_new (below_new (Below.refl _ _) _) _
  have sz : w1.heap.size = w.heap.size + 1 + 1 := by rw [hw1]; simp only [World.size_alloc]
  obtain ⟨i0, hi0, hz0, hz1, hz2⟩ := info_parts Tryz.infoData
  obtain ⟨Z, hZ⟩ : ∃ Z : Array Value, Z = madeCells (Value.cells (.agg #[.slice none 0 0])) (n * 1) := ⟨_, rfl⟩
  have MK : Hid (∀ W : World, (Instr.makeSlice 25 (.int .i64 n) (.int .i64 n)).run Tryz.prog W = .ok (.slice (some ⟨W.heap.size, 0, none⟩) n n) (W.alloc (.cells Z 57))) := by
    show ∀ W, _; intro W
    have := run_make (P := Tryz.prog) W 25 57 i0 _ Tryz.underlying25 hi0 hz0 .i64 .i64 n n (by omega) (by omega) (by rw [hz2]; omega) (by omega)
    rw [hz1] at this
    simpa [hZ] using this
  have hZl : (List.replicate n (⟨none, 0, 0⟩ : SlR)).flatMap SlR.cells = Z.toList := by
    rw [hZ, Nat.mul_one, show Value.cells (.agg #[.slice none 0 0]) = #[.slice none 0 0] from rfl, toList_madeCells_one, rep_cells]
  obtain ⟨w2, hw2⟩ : ∃ w2, w2 = w1.alloc (.cells Z 57) := ⟨_, rfl⟩
  have HW2 := Lib.hid hw2
  have b2 : Below w1.heap.size w1 w2 := by rw [hw2]; exact below_new (Below.refl _ _) _
  have hrd : RdG SlR.cells 1 w2 (some ⟨w1.heap.size, 0, none⟩) n n (List.replicate n ⟨none, 0, 0⟩) := by rw [hw2]; exact rdg_new slRlen w1 _ Z 57 hZl (by simp) hn rfl
  have MK1 : Hid ((Instr.makeSlice 25 (.int .i64 n) (.int .i64 n)).run Tryz.prog w1 = .ok (.slice (some ⟨w1.heap.size, 0, none⟩) n n) w2) := by show _ = _; rw [hw2]; exact MK.out w1
  obtain ⟨g1, hg1⟩ : ∃ g, g = w.heap.size + 1 := ⟨_, rfl⟩
  obtain ⟨g2, hg2⟩ : ∃ g, g = w1.heap.size := ⟨_, rfl⟩
  have R1 := Lib.hid (row_below r1 b2)
  rw [← hg1] at R1
  rw [← hg2] at hrd MK1
  have HRD := Lib.hid hrd
  have HB := Lib.hid (below_then b1 b2)
  have HG : Hid (w.heap.size < g1 ∧ g1 < g2) := by show _ ∧ _; omega
  have HG1 := Lib.hid hg1
  have p0 : w1.cell? ⟨w.heap.size, 0, none⟩ = some (.slice A n c) := cell_row r0 0
  have t1 := base_row R1.out
  have f1 := frozen_row R1.out
  have mk1 := MK1.out
  have y0 : (0 : Int) ≤ (n : Int) := by omega
  clear hw1 hw2 r0 r1 b1 b2 sz hZ hZl MK hrd hg1 hg2 MK1
  go_enter Tryz.func15, Tryz.ntmps15
  go_upto_region 1 with fail
  rw [show (w.alloc (.cells #[.slice A n c] 24)).alloc (baseBox none 0 0) = w1 from HW.out.symm]
  clear HW HW2
  rw [← HG1.out]
  clear HG1
  go_wp2_with fail
  refine bodyPost_ret (v := .agg #[.slice (some ⟨g2, 0, none⟩) n n]) (results_cell_row rfl _ _ g1 27 _ (0, 0) _ rfl (set1row R1.out) Tryz.underlying27 rfl (by kernel_rfl)) rfl ?_
  have hg := HG.out
  refine ⟨⟨some ⟨g2, 0, none⟩, n, n⟩, rfl, fun U hU => ⟨_, rdg_agree (rdg_ne HRD.out g1 (fun _ a ha => by injection ha with ha; subst ha; show g2 ≠ g1; omega) _ _) (fun _ a ha => .inr (by injection ha with ha; subst ha; show w.heap.size ≤ g2; omega)) hU, by simp, fun j x y hx hy => ?_⟩, below_put HB.out _ _ _ (by omega)⟩
  obtain rfl : x = ⟨none, 0, 0⟩ := by
    have := List.mem_of_getElem? hx
    exact (List.mem_replicate.1 this).2
  obtain rfl : y = [] := (List.mem_replicate.1 (List.mem_of_getElem? hy)).2
  exact RdR.nil_ _
/-- a line as it came in, and a base -/
structure BaseOk (b : List (List LQ)) : Prop where
  tabs : b.length ≤ 4294967000
  rows : ∀ l ∈ b, l.length ≤ 4294967000
  each : ∀ l ∈ b, ∀ y ∈ l, LineOk y
theorem linesB_mem {b : List (List LQ)} {t : Int} {y : LQ} (h : y ∈ linesB b t) : ∃ l ∈ b, y ∈ l := by
  unfold linesB at h
  split at h
  · rw [List.getD_eq_getElem?_getD] at h
    cases e : b[t.toNat]? with
    | none => rw [e] at h; cases h
    | some l => rw [e] at h; exact ⟨l, List.mem_of_getElem? e, h⟩
  · cases h
theorem linesB_len {b : List (List LQ)} (hb : BaseOk b) (t : Int) : (linesB b t).length ≤ 4294967000 := by
  unfold linesB
  split
  · rw [List.getD_eq_getElem?_getD]
    cases e : b[t.toNat]? with
    | none => simp
    | some l => exact hb.rows l (List.mem_of_getElem? e)
  · simp
end Go.Proofs.YtfljhnalmiibeaaGreat

