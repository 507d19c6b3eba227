/- Layer 8: a number more: the code's Add. -/
import Derived.Test.YtieaobeidlhefaaCntMake
namespace Go.Proofs.Ytieaobeidlhefaa
set_option maxRecDepth 100000
open Go.RowKit

/-- what a cell comes to with a number more; and why it doesn't -/
def addC (x : C5) (m : Int) : Value := if x.right = 0 ∧ okC m = true then outC (x.v.n + m) else zeroCell
def addE (x : C5) (m : Int) : Int := if x.right = 0 then (if okC m = true then outE (x.v.n + m) else 20) else x.right

theorem right_n {x : C5} (h : x.right = 0) : x.k = 2 ∧ x.v.k = 1 ∧ x.v.s.size = 0 ∧ x.n = 0 ∧ -1099511627776 ≤ x.v.n ∧ x.v.n ≤ 1099511627776 := by
  simp only [C5.right, rightN] at h
  repeat' split at h
  all_goals first
    | (exfalso; revert h; decide)
    | (refine ⟨?_, ?_, ?_, ?_, ?_, ?_⟩ <;> omega)
theorem okC_iff {m : Int} (h : okC m = true) : -1099511627776 ≤ m ∧ m ≤ 1099511627776 := by
  simpa [okC] using h
theorem wrap0 {m : Int} (h : -9223372036854775808 ≤ m ∧ m ≤ 9223372036854775807) : IntKind.i64.wrap (0 + m) = m := by
  rw [Int.zero_add]; exact wrap_is h
theorem first2 (x : C5) (m : Int) : firstN [x, ⟨2, ⟨1, m, noS⟩, none, 0, 0⟩] = if x.right = 0 then (if okC m = true then 0 else 20) else x.right := by
  have := rightN_cnt m
  by_cases h : x.right = 0
  · cases h2 : okC m <;> simp [firstN, h, C5.right, h2] at this ⊢ <;> simp [this]
  · simp [firstN, h]

set_option maxHeartbeats 3200000 in
theorem cntAdd_any (x : C5) (m : Int) (w : World) (hm : -9223372036854775808 ≤ m ∧ m ≤ 9223372036854775807) :
    Calls Try.prog 36 #[x.val, .int .i64 m] w fun e w' => e = .returned (.tuple #[addC x m, .int .i64 (addE x m)]) ∧ Below w.heap.size w w' := by
  obtain ⟨g, hg⟩ : ∃ g, g = w.heap.size := ⟨_, rfl⟩
  obtain ⟨w1, hw1⟩ : ∃ w1, w1 = (w.alloc (cellRow x.k x.v (.slice x.A x.n x.c))).alloc zeroRow := ⟨_, rfl⟩
  have hs1 : w1.heap.size = g + 2 := by rw [hw1, hg]; simp
  have b1 : Below w.heap.size w w1 := by rw [hw1]; exact below_new (below_new (Below.refl _ _) _) _
  have r1 : w1.heap[g]? = some (cellRow x.k x.v (.slice x.A x.n x.c)) := by rw [hw1, hg]; exact row_below (heap_alloc_new _ _) (below_new (Below.refl _ _) _)
  have r2 : w1.heap[g + 1]? = some zeroRow := by
    have := heap_alloc_new (w.alloc (cellRow x.k x.v (.slice x.A x.n x.c))) zeroRow
    rw [World.size_alloc, ← hg, ← hw1] at this; exact this
  have hS0 : Below w1.heap.size w1 w1 ∧ w1.cell? ⟨g, 0, none⟩ = some (.int .i64 x.k) ∧ w1.cell? ⟨g, 1, none⟩ = some (.int .i64 x.v.k) ∧ w1.cell? ⟨g, 2, none⟩ = some (.int .i64 x.v.n) ∧ w1.cell? ⟨g, 3, none⟩ = some (.string x.v.s) ∧ w1.cell? ⟨g, 4, none⟩ = some (.slice x.A x.n x.c) := by
    obtain ⟨a0, a1, a2, a3, a4⟩ := cell_row5 r1
    exact ⟨Below.refl _ _, a0, a1, a2, a3, a4⟩
  have K : Hid (∀ W W' : World, (Below w1.heap.size w1 W ∧ W.cell? ⟨g, 0, none⟩ = some (.int .i64 x.k) ∧ W.cell? ⟨g, 1, none⟩ = some (.int .i64 x.v.k) ∧ W.cell? ⟨g, 2, none⟩ = some (.int .i64 x.v.n) ∧ W.cell? ⟨g, 3, none⟩ = some (.string x.v.s) ∧ W.cell? ⟨g, 4, none⟩ = some (.slice x.A x.n x.c)) → Below W.heap.size W W' → (Below w1.heap.size w1 W' ∧ W'.cell? ⟨g, 0, none⟩ = some (.int .i64 x.k) ∧ W'.cell? ⟨g, 1, none⟩ = some (.int .i64 x.v.k) ∧ W'.cell? ⟨g, 2, none⟩ = some (.int .i64 x.v.n) ∧ W'.cell? ⟨g, 3, none⟩ = some (.string x.v.s) ∧ W'.cell? ⟨g, 4, none⟩ = some (.slice x.A x.n x.c))) := by
    rintro W W' ⟨k0, k1, k2, k3, k4, k5⟩ hb
    have hc : ∀ (p : Addr) (y : Value), W.cell? p = some y → W'.cell? p = some y := fun p y h2 => (hb.cell (World.block_lt_of_cell? _ _ h2)).trans h2
    exact ⟨below_then k0 hb, hc _ _ k1, hc _ _ k2, hc _ _ k3, hc _ _ k4, hc _ _ k5⟩
  have CC : Hid (∀ W W2 : World, Below (W.alloc (.cells #[.int .i64 m] 3)).heap.size (W.alloc (.cells #[.int .i64 m] 3)) W2 → Calls Try.prog 75 #[.slice (some ⟨W.heap.size, 0, none⟩) 1 1] W2 fun e w' => e = .returned (cntV m) ∧ Below W2.heap.size W2 w') := by
    intro W W2 hb
    have := cntCell_any (some ⟨W.heap.size, 0, none⟩) 1 1 [m] W2 ((rd_new W [.int .i64 m] 3 rfl (by simp)).below hb)
    rwa [show addW [m] = m from wrap0 hm] at this
  obtain ⟨r, hr⟩ : ∃ r, Hid (r = if x.right = 0 then (if okC m = true then 0 else 20) else x.right) := ⟨_, rfl⟩
  have CF : Hid (∀ W W2 : World, Below (W.alloc (.cells #[.int .i64 x.k, .int .i64 x.v.k, .int .i64 x.v.n, .string x.v.s, .slice x.A x.n x.c, .int .i64 2, .int .i64 1, .int .i64 m, .string ⟨#[]⟩, .slice none 0 0] 26)).heap.size (W.alloc (.cells #[.int .i64 x.k, .int .i64 x.v.k, .int .i64 x.v.n, .string x.v.s, .slice x.A x.n x.c, .int .i64 2, .int .i64 1, .int .i64 m, .string ⟨#[]⟩, .slice none 0 0] 26)) W2 → Calls Try.prog 74 #[.slice (some ⟨W.heap.size, 0, none⟩) 2 2] W2 fun e w' => e = .returned (.int .i64 r) ∧ Below W2.heap.size W2 w') := by
    intro W W2 hb
    have := cntFirst_any (some ⟨W.heap.size, 0, none⟩) 2 2 [x, ⟨2, ⟨1, m, noS⟩, none, 0, 0⟩] W2 ((rdg_new c5len W _ _ 26 (by rfl) (by rfl) (by omega) rfl).below hb)
    rwa [first2, ← hr.out] at this
  have CB : Hid (x.right = 0 → okC m = true → ∀ W W2 : World, Below (W.alloc (.cells #[.int .i64 x.v.n, .int .i64 m] 3)).heap.size (W.alloc (.cells #[.int .i64 x.v.n, .int .i64 m] 3)) W2 → Calls Try.prog 76 #[.slice (some ⟨W.heap.size, 0, none⟩) 2 2] W2 fun e w' => e = .returned (.tuple #[outC (x.v.n + m), .int .i64 (outE (x.v.n + m))]) ∧ Below W2.heap.size W2 w') := by
    intro hx ho W W2 hb
    have := cntBound_any (some ⟨W.heap.size, 0, none⟩) 2 2 [x.v.n, m] W2 ((rd_new W [.int .i64 x.v.n, .int .i64 m] 3 rfl (by simp)).below hb)
    obtain ⟨_, _, _, _, h1, h2⟩ := right_n hx
    have h3 := okC_iff ho
    rwa [show addW [x.v.n, m] = x.v.n + m by
      show IntKind.i64.wrap (IntKind.i64.wrap (0 + x.v.n) + m) = _
      rw [wrap0 (by omega), wrap_is (by omega)]] at this
  have HG := Lib.hid hg; have HW1 := Lib.hid hw1; have HS1 := Lib.hid hs1; have HB := Lib.hid b1; have R2 := Lib.hid r2
  obtain ⟨FC, hFC⟩ : ∃ F, Hid (addC x m = F) := ⟨_, rfl⟩
  obtain ⟨FE, hFE⟩ : ∃ F, Hid (addE x m = F) := ⟨_, rfl⟩
  rw [hFC.out, hFE.out]
  clear hg hw1 hs1 b1 r1 r2 hm
  go_enter Try.func36, Try.ntmps36
  go_upto_region 1 with fail
  rw [← HG.out]
  rw [show (w.alloc (cellRow x.k x.v (.slice x.A x.n x.c))).alloc (Obj.cells #[Value.int .i64 0, .int .i64 0, .int .i64 0, .string ⟨#[]⟩, .slice none 0 0] 26) = w1 from HW1.out.symm]
  clear HW1
  go_region_held3 (fun W => Below w1.heap.size w1 W ∧ W.cell? ⟨g, 0, none⟩ = some (.int .i64 x.k) ∧ W.cell? ⟨g, 1, none⟩ = some (.int .i64 x.v.k) ∧ W.cell? ⟨g, 2, none⟩ = some (.int .i64 x.v.n) ∧ W.cell? ⟨g, 3, none⟩ = some (.string x.v.s) ∧ W.cell? ⟨g, 4, none⟩ = some (.slice x.A x.n x.c))
    (first
      | exact K.out _ _ hS0 ((Below.refl _ _).drew)
      | exact K.out _ _ (by assumption) bb
      | exact K.out _ _ (by assumption) ((Below.refl _ _).alloc (Nat.le_refl _) _)
      | exact K.out _ _ hS0 (((Below.refl _ _).alloc (Nat.le_refl _) _).drew))
    (first
      | (go_at_call 75; refine (CC.out _ _ (by first | exact Below.refl _ _ | exact (Below.refl _ _).drew | exact ((Below.refl _ _).alloc (Nat.le_refl _) _) | exact ((Below.refl _ _).drew).trans bb | exact bb)).mono ?_; rintro e wx ⟨rfl, bb⟩)
      | (go_at_call 74; refine (CF.out _ _ (by first | exact Below.refl _ _ | exact (Below.refl _ _).drew | exact ((Below.refl _ _).alloc (Nat.le_refl _) _) | exact ((Below.refl _ _).drew).trans bb | exact bb)).mono ?_; rintro e wx ⟨rfl, bb⟩))
  have hSz : Below w1.heap.size w1 wx ∧ wx.cell? ⟨g, 0, none⟩ = some (.int .i64 x.k) ∧ wx.cell? ⟨g, 1, none⟩ = some (.int .i64 x.v.k) ∧ wx.cell? ⟨g, 2, none⟩ = some (.int .i64 x.v.n) ∧ wx.cell? ⟨g, 3, none⟩ = some (.string x.v.s) ∧ wx.cell? ⟨g, 4, none⟩ = some (.slice x.A x.n x.c) := by assumption
  clear hS0 CC CF
  try clear bb
  obtain ⟨bz, c0, c1, c2, c3, c4⟩ := hSz
  have R5 := Lib.hid (row_below R2.out bz)
  have B5 := Lib.hid (below_then HB.out bz)
  have hgw : Hid (w.heap.size ≤ g + 1) := by rw [HG.out]; exact Nat.le_succ _
  clear K R2 HB bz
  by_cases hxo : x.right = 0 ∧ okC m = true
  · obtain ⟨hx, ho⟩ := hxo
    obtain rfl : r = 0 := by rw [hr.out, if_pos hx, if_pos ho]
    have CB2 := Lib.hid (CB.out hx ho)
    have HX := Lib.hid hx; have HO := Lib.hid ho
    clear CB hr hx ho
    go_wp2_with fail
    refine (CB2.out _ _ (Below.refl _ _)).mono ?_
    rintro e w6 ⟨rfl, b6⟩
    have B6 := Lib.hid (below_then (below_new B5.out _) b6)
    have R6 := Lib.hid (row_below (row_below R5.out (below_new (Below.refl _ _) _)) b6)
    obtain ⟨e0, e1, e2, e3, e4⟩ := cell_row5 R6.out
    have f1 := frozen_row R6.out
    dsimp only at e0 e1 e2 e3 e4
    clear R5 B5 CB2 b6 c0 c1 c2 c3 c4
    have hC : Hid (FC = outC (x.v.n + m)) := by show _ = _; rw [← hFC.out, addC, if_pos ⟨HX.out, HO.out⟩]
    have hE : Hid (FE = outE (x.v.n + m)) := by show _ = _; rw [← hFE.out, addE, if_pos HX.out, if_pos HO.out]
    clear hFC hFE
    generalize x.v.n + m = s at hC hE ⊢
    cases hs : okC s with
    | true =>
      have HC : Hid (FC = cntV s) := by rw [hC.out, outC, hs]; rfl
      have HE : Hid (FE = 0) := by rw [hE.out, outE, hs]; rfl
      clear hC hE
      simp only [outC, outE, hs, if_true]
      clear hs
      go_wp2_with fail
      refine bodyPost_ret (v := .tuple #[cntV s, .int .i64 0]) (results_row_tmp rfl _ _ (g + 1) 26 _ (0, 0) _ rfl (set5 R6.out) Try.underlying26 rfl (by kernel_rfl) rfl) rfl ?_
      exact ⟨by rw [HC.out, HE.out], ((((B6.out.setCell hgw.out _).setCell hgw.out _).setCell hgw.out _).setCell hgw.out _).setCell hgw.out _⟩
    | false =>
      have HC : Hid (FC = zeroCell) := by rw [hC.out, outC, hs]; rfl
      have HE : Hid (FE = 20) := by rw [hE.out, outE, hs]; rfl
      clear hC hE
      simp only [outC, outE, hs, Bool.false_eq_true, if_false]
      clear hs
      go_wp2_with fail
      refine bodyPost_ret (v := .tuple #[zeroCell, .int .i64 20]) (results_row_tmp rfl _ _ (g + 1) 26 _ (0, 0) _ rfl (set5 R6.out) Try.underlying26 rfl (by kernel_rfl) rfl) rfl ?_
      exact ⟨by rw [HC.out, HE.out], ((((B6.out.setCell hgw.out _).setCell hgw.out _).setCell hgw.out _).setCell hgw.out _).setCell hgw.out _⟩
  · have hr0 : ¬ r = 0 := by
      rw [hr.out]
      by_cases hx : x.right = 0
      · rw [if_pos hx, if_neg (fun h => hxo ⟨hx, h⟩)]; decide
      · rw [if_neg hx]; exact hx
    have HC : Hid (FC = zeroCell) := by show _ = _; rw [← hFC.out, addC, if_neg hxo]
    have HE : Hid (FE = r) := by
      show _ = _
      rw [← hFE.out, hr.out, addE]
      by_cases hx : x.right = 0
      · simp only [if_pos hx, if_neg (fun h => hxo ⟨hx, h⟩)]
      · simp only [if_neg hx]
    obtain ⟨e0, e1, e2, e3, e4⟩ := cell_row5 R5.out
    have f1 := frozen_row R5.out
    dsimp only at e0 e1 e2 e3 e4
    clear hFC hFE hxo CB c0 c1 c2 c3 c4 hr
    go_wp2_with fail
    refine bodyPost_ret (v := .tuple #[zeroCell, .int .i64 r]) (results_row_tmp rfl _ _ (g + 1) 26 _ (0, 0) _ rfl (set5 R5.out) Try.underlying26 rfl (by kernel_rfl) rfl) rfl ?_
    exact ⟨by rw [HC.out, HE.out], ((((B5.out.setCell hgw.out _).setCell hgw.out _).setCell hgw.out _).setCell hgw.out _).setCell hgw.out _⟩
end Go.Proofs.Ytieaobeidlhefaa
