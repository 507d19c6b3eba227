/- Layer 8: the chapter's examples. -/
import Derived.Test.YtieaobeidlhefaaCntMade
namespace Go.Proofs.Ytieaobeidlhefaa
set_option maxRecDepth 100000
open Go.RowKit

set_option maxHeartbeats 6400000 in
theorem cntAwake_any (w : World) : Calls Try.prog 35 #[] w fun e w' => e = .returned (.bool true) ∧ Below w.heap.size w w' := by
  have HB := Lib.hid (Below.refl w.heap.size w)
  have EQ := run_equalIn_val 1 (-2) 1 (-2) noS noS
  rw [show sameZ 1 (-2) noS 1 (-2) noS = true by simp [sameZ]] at EQ
  go_enter Try.func35, Try.ntmps35
  go_wp2_with fail
  refine (cntNew_any _).mono ?_
  rintro e w1 ⟨rfl, bb⟩
  replace HB := Lib.hid (below_then HB.out bb)
  clear bb
  go_wp2_with fail
  refine (cntAdd_is 0 5 5 _ (by decide) (by decide) (by decide) (by decide)).mono ?_
  rintro e w2 ⟨rfl, bb⟩
  replace HB := Lib.hid (below_then HB.out bb)
  clear bb
  obtain ⟨w3, hw⟩ : ∃ w', w' = w2.alloc (cntRow 5) := ⟨_, rfl⟩
  have RA : Hid (w3.heap[w2.heap.size]? = some (cntRow 5)) := by rw [hw]; exact heap_alloc_new _ _
  have bb : Below w2.heap.size w2 w3 := by rw [hw]; exact below_new (Below.refl _ _) _
  replace hw := Lib.hid hw
  replace HB := Lib.hid (below_then HB.out bb)
  clear bb
  go_upto_region 2 with fail
  rw [show w2.alloc (Obj.cells #[Value.int .i64 2, .int .i64 1, .int .i64 5, .string ⟨#[]⟩, .slice none 0 0] 26) = w3 from hw.out.symm]
  clear hw
  generalize w2.heap.size = gRA at RA ⊢
  obtain ⟨RA0, RA1, RA2, RA3, RA4⟩ := cell_row5 RA.out
  try dsimp only at RA0 RA1 RA2 RA3 RA4
  go_wp2_with fail
  refine (cntAdd_is 5 (-7) (-2) _ (by decide) (by decide) (by decide) (by decide)).mono ?_
  rintro e w4 ⟨rfl, bb⟩
  replace RA := Lib.hid (row_below RA.out bb)
  replace HB := Lib.hid (below_then HB.out bb)
  clear bb
  clear RA0 RA1 RA2 RA3 RA4
  obtain ⟨w5, hw⟩ : ∃ w', w' = w4.alloc (cntRow (-2)) := ⟨_, rfl⟩
  have RB : Hid (w5.heap[w4.heap.size]? = some (cntRow (-2))) := by rw [hw]; exact heap_alloc_new _ _
  have bb : Below w4.heap.size w4 w5 := by rw [hw]; exact below_new (Below.refl _ _) _
  replace hw := Lib.hid hw
  replace RA := Lib.hid (row_below RA.out bb)
  replace HB := Lib.hid (below_then HB.out bb)
  clear bb
  go_upto_region 3 with fail
  rw [show w4.alloc (Obj.cells #[Value.int .i64 2, .int .i64 1, .int .i64 (-2), .string ⟨#[]⟩, .slice none 0 0] 26) = w5 from hw.out.symm]
  clear hw
  generalize w4.heap.size = gRB at RB ⊢
  go_wp2_with fail
  refine (refOf8_any 8 _).mono ?_
  rintro e w6 ⟨rfl, bb⟩
  replace RA := Lib.hid (row_below RA.out bb)
  replace RB := Lib.hid (row_below RB.out bb)
  replace HB := Lib.hid (below_then HB.out bb)
  clear bb
  go_wp2_with fail
  refine (refOf8_any 3 _).mono ?_
  rintro e w7 ⟨rfl, bb⟩
  replace RA := Lib.hid (row_below RA.out bb)
  replace RB := Lib.hid (row_below RB.out bb)
  replace HB := Lib.hid (below_then HB.out bb)
  clear bb
  go_wp2_with fail
  refine (refOf8_any 5 _).mono ?_
  rintro e w8 ⟨rfl, bb⟩
  replace RA := Lib.hid (row_below RA.out bb)
  replace RB := Lib.hid (row_below RB.out bb)
  replace HB := Lib.hid (below_then HB.out bb)
  clear bb
  go_wp2_with fail
  refine (cntMerge_is 8 3 5 6 _ (by decide) (by decide) (by decide) (by decide) (by decide)).mono ?_
  rintro e w9 ⟨rfl, bb⟩
  replace RA := Lib.hid (row_below RA.out bb)
  replace RB := Lib.hid (row_below RB.out bb)
  replace HB := Lib.hid (below_then HB.out bb)
  clear bb
  obtain ⟨w10, hw⟩ : ∃ w', w' = w9.alloc (cntRow 6) := ⟨_, rfl⟩
  have RC : Hid (w10.heap[w9.heap.size]? = some (cntRow 6)) := by rw [hw]; exact heap_alloc_new _ _
  have bb : Below w9.heap.size w9 w10 := by rw [hw]; exact below_new (Below.refl _ _) _
  replace hw := Lib.hid hw
  replace RA := Lib.hid (row_below RA.out bb)
  replace RB := Lib.hid (row_below RB.out bb)
  replace HB := Lib.hid (below_then HB.out bb)
  clear bb
  go_upto_region 4 with fail
  rw [show w9.alloc (Obj.cells #[Value.int .i64 2, .int .i64 1, .int .i64 6, .string ⟨#[]⟩, .slice none 0 0] 26) = w10 from hw.out.symm]
  clear hw
  generalize w9.heap.size = gRC at RC ⊢
  obtain ⟨RB0, RB1, RB2, RB3, RB4⟩ := cell_row5 RB.out
  try dsimp only at RB0 RB1 RB2 RB3 RB4
  obtain ⟨RC0, RC1, RC2, RC3, RC4⟩ := cell_row5 RC.out
  try dsimp only at RC0 RC1 RC2 RC3 RC4
  have hS0 : Below w10.heap.size w10 w10 ∧ w10.cell? ⟨gRB, 0, none⟩ = some (.int .i64 2) ∧ w10.cell? ⟨gRB, 1, none⟩ = some (.int .i64 1) ∧ w10.cell? ⟨gRB, 2, none⟩ = some (.int .i64 (-2)) ∧ w10.cell? ⟨gRB, 3, none⟩ = some (.string noS) ∧ w10.cell? ⟨gRB, 4, none⟩ = some (.slice none 0 0) ∧ w10.cell? ⟨gRC, 0, none⟩ = some (.int .i64 2) ∧ w10.cell? ⟨gRC, 1, none⟩ = some (.int .i64 1) ∧ w10.cell? ⟨gRC, 2, none⟩ = some (.int .i64 6) ∧ w10.cell? ⟨gRC, 3, none⟩ = some (.string noS) ∧ w10.cell? ⟨gRC, 4, none⟩ = some (.slice none 0 0) := ⟨Below.refl _ _, RB0, RB1, RB2, RB3, RB4, RC0, RC1, RC2, RC3, RC4⟩
  have K : Hid (∀ W W' : World, (Below w10.heap.size w10 W ∧ W.cell? ⟨gRB, 0, none⟩ = some (.int .i64 2) ∧ W.cell? ⟨gRB, 1, none⟩ = some (.int .i64 1) ∧ W.cell? ⟨gRB, 2, none⟩ = some (.int .i64 (-2)) ∧ W.cell? ⟨gRB, 3, none⟩ = some (.string noS) ∧ W.cell? ⟨gRB, 4, none⟩ = some (.slice none 0 0) ∧ W.cell? ⟨gRC, 0, none⟩ = some (.int .i64 2) ∧ W.cell? ⟨gRC, 1, none⟩ = some (.int .i64 1) ∧ W.cell? ⟨gRC, 2, none⟩ = some (.int .i64 6) ∧ W.cell? ⟨gRC, 3, none⟩ = some (.string noS) ∧ W.cell? ⟨gRC, 4, none⟩ = some (.slice none 0 0)) → Below W.heap.size W W' → (Below w10.heap.size w10 W' ∧ W'.cell? ⟨gRB, 0, none⟩ = some (.int .i64 2) ∧ W'.cell? ⟨gRB, 1, none⟩ = some (.int .i64 1) ∧ W'.cell? ⟨gRB, 2, none⟩ = some (.int .i64 (-2)) ∧ W'.cell? ⟨gRB, 3, none⟩ = some (.string noS) ∧ W'.cell? ⟨gRB, 4, none⟩ = some (.slice none 0 0) ∧ W'.cell? ⟨gRC, 0, none⟩ = some (.int .i64 2) ∧ W'.cell? ⟨gRC, 1, none⟩ = some (.int .i64 1) ∧ W'.cell? ⟨gRC, 2, none⟩ = some (.int .i64 6) ∧ W'.cell? ⟨gRC, 3, none⟩ = some (.string noS) ∧ W'.cell? ⟨gRC, 4, none⟩ = some (.slice none 0 0))) := by
    rintro W W' ⟨kk, k0, k1, k2, k3, k4, k5, k6, k7, k8, k9⟩ hb
    have hc : ∀ (p : Addr) (y : Value), W.cell? p = some y → W'.cell? p = some y := fun p y h2 => (hb.cell (World.block_lt_of_cell? _ _ h2)).trans h2
    exact ⟨below_then kk hb, hc _ _ k0, hc _ _ k1, hc _ _ k2, hc _ _ k3, hc _ _ k4, hc _ _ k5, hc _ _ k6, hc _ _ k7, hc _ _ k8, hc _ _ k9⟩
  go_region_held3 (fun W => Below w10.heap.size w10 W ∧ W.cell? ⟨gRB, 0, none⟩ = some (.int .i64 2) ∧ W.cell? ⟨gRB, 1, none⟩ = some (.int .i64 1) ∧ W.cell? ⟨gRB, 2, none⟩ = some (.int .i64 (-2)) ∧ W.cell? ⟨gRB, 3, none⟩ = some (.string noS) ∧ W.cell? ⟨gRB, 4, none⟩ = some (.slice none 0 0) ∧ W.cell? ⟨gRC, 0, none⟩ = some (.int .i64 2) ∧ W.cell? ⟨gRC, 1, none⟩ = some (.int .i64 1) ∧ W.cell? ⟨gRC, 2, none⟩ = some (.int .i64 6) ∧ W.cell? ⟨gRC, 3, none⟩ = some (.string noS) ∧ W.cell? ⟨gRC, 4, none⟩ = some (.slice none 0 0))
    (first
      | exact K.out _ _ hS0 ((Below.refl _ _).drew)
      | exact K.out _ _ (by assumption) bb
      | exact K.out _ _ (by assumption) ((Below.refl _ _).alloc (Nat.le_refl _) _)
      | exact K.out _ _ hS0 (((Below.refl _ _).alloc (Nat.le_refl _) _).drew))
    (first
      | (go_at_call 40; refine (cntShow_is (-2) _ (by decide)).mono ?_; rintro e wx ⟨rfl, bb⟩)
      | (go_at_call 48; refine (refOf8_any 6 _).mono ?_; rintro e wx ⟨rfl, bb⟩)
      | (go_at_call 42; refine (refSame8_is 6 _).mono ?_; rintro e wx ⟨rfl, bb⟩)
      | (go_at_call 43; refine (cntNew_any _).mono ?_; rintro e wx ⟨rfl, bb⟩)
      | (go_at_call 38; refine (cntRight_is 0 _ (by decide)).mono ?_; rintro e wx ⟨rfl, bb⟩))
  have hSz : Below w10.heap.size w10 wx ∧ wx.cell? ⟨gRB, 0, none⟩ = some (.int .i64 2) ∧ wx.cell? ⟨gRB, 1, none⟩ = some (.int .i64 1) ∧ wx.cell? ⟨gRB, 2, none⟩ = some (.int .i64 (-2)) ∧ wx.cell? ⟨gRB, 3, none⟩ = some (.string noS) ∧ wx.cell? ⟨gRB, 4, none⟩ = some (.slice none 0 0) ∧ wx.cell? ⟨gRC, 0, none⟩ = some (.int .i64 2) ∧ wx.cell? ⟨gRC, 1, none⟩ = some (.int .i64 1) ∧ wx.cell? ⟨gRC, 2, none⟩ = some (.int .i64 6) ∧ wx.cell? ⟨gRC, 3, none⟩ = some (.string noS) ∧ wx.cell? ⟨gRC, 4, none⟩ = some (.slice none 0 0) := by assumption
  have HZ := below_then HB.out hSz.1
  go_wp2_with fail
  go_ret
  exact ⟨rfl, HZ⟩
end Go.Proofs.Ytieaobeidlhefaa
