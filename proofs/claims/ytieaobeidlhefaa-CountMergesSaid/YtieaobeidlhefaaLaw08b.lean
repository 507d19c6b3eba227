/- What any two counters are together, that came of a third one, is as the document says. Of all cells. -/
import Derived.Test.YtieaobeidlhefaaRows
import Derived.Test.YtieaobeidlhefaaLaw
import Derived.Test.YtieaobeidlhefaaCntLaw
import Derived.Test.YtieaobeidlhefaaCellOpen
namespace Go.Proofs.Ytieaobeidlhefaa.countMerges
open Go.ChangeShapes Go.WideShapes Go.ChangeAt Go.RowKit Go.ChangeMaps

set_option maxRecDepth 100000 in
set_option maxHeartbeats 12800000 in
theorem walk (ka kb ko : Int) (a b o : V3) (A B D : Option Addr) (n c p d q f : Nat) (w : World) :
    Calls Try.prog 11 #[cellV ka a (.slice A n c), cellV kb b (.slice B p d), cellV ko o (.slice D q f)] w fun e w' => e = .returned (.bool true) ∧ Below w.heap.size w w' := by
  have HB := Lib.hid (Below.refl w.heap.size w)
  obtain ⟨ky, y, hC⟩ := mergeC_is ⟨ka, a, A, n, c⟩ ⟨kb, b, B, p, d⟩ ⟨ko, o, D, q, f⟩
  obtain ⟨E, hE⟩ : ∃ E, mergeE ⟨ka, a, A, n, c⟩ ⟨kb, b, B, p, d⟩ ⟨ko, o, D, q, f⟩ = E := ⟨_, rfl⟩
  have CA : Hid (∀ W : World, Calls Try.prog 45 #[cellV ka a (.slice A n c), cellV kb b (.slice B p d), cellV ko o (.slice D q f)] W fun e w' => e = .returned (.tuple #[cellV ky y (.slice none 0 0), .int .i64 E]) ∧ Below W.heap.size W w') := by
    intro W
    rw [← hC, ← hE]; exact cntMerge_any ⟨ka, a, A, n, c⟩ ⟨kb, b, B, p, d⟩ ⟨ko, o, D, q, f⟩ W
  have CA2 : Hid (∀ W : World, Calls Try.prog 46 #[cellV ka a (.slice A n c), cellV kb b (.slice B p d), cellV ko o (.slice D q f)] W fun e w' => e = .returned (.tuple #[cellV ky y (.slice none 0 0), .int .i64 E]) ∧ Below W.heap.size W w') := by
    intro W
    rw [← hC, ← hE]; exact refMerge8_any ⟨ka, a, A, n, c⟩ ⟨kb, b, B, p, d⟩ ⟨ko, o, D, q, f⟩ W
  clear hC hE
  obtain ⟨g, hg⟩ : ∃ g, g = w.heap.size := ⟨_, rfl⟩
  obtain ⟨w0, hw0⟩ : ∃ w1, w1 = (((w.alloc (cellRow ka a (.slice A n c))).alloc (cellRow kb b (.slice B p d))).alloc (cellRow ko o (.slice D q f))) := ⟨_, rfl⟩
  have HW0 := Lib.hid hw0; have HG := Lib.hid hg
  have hat : ∀ (w : World) (o : Obj) (g : Nat), w.heap.size = g → (w.alloc o).heap[g]? = some o := fun w o g h => by subst h; exact heap_alloc_new _ _
  replace HB : Hid (Below w.heap.size w w0) := by rw [hw0]; exact below_new (below_new (below_new (Below.refl _ _) _) _) _
  have R0 : Hid (w0.heap[g]? = some (cellRow ka a (.slice A n c))) := by
    show _ = _
    rw [hw0, hg]
    rw [Below.heap_alloc _ _ _ (by simp only [World.size_alloc]; omega), Below.heap_alloc _ _ _ (by simp only [World.size_alloc]; omega)]
    exact hat _ _ _ rfl
  have R1 : Hid (w0.heap[g + 1]? = some (cellRow kb b (.slice B p d))) := by
    show _ = _
    rw [hw0, hg]
    rw [Below.heap_alloc _ _ _ (by simp only [World.size_alloc]; omega)]
    exact hat _ _ _ (by simp only [World.size_alloc])
  have R2 : Hid (w0.heap[g + 2]? = some (cellRow ko o (.slice D q f))) := by
    show _ = _
    rw [hw0, hg]
    skip
    exact hat _ _ _ (by simp only [World.size_alloc])
  clear hg hw0 hat
  go_enter Try.func11, Try.ntmps11
  go_upto_region 1 with fail
  rw [← HG.out]
  rw [show ((w.alloc (Obj.cells #[Value.int .i64 ka, .int .i64 a.k, .int .i64 a.n, .string a.s, .slice A n c] 26)).alloc (Obj.cells #[Value.int .i64 kb, .int .i64 b.k, .int .i64 b.n, .string b.s, .slice B p d] 26)).alloc (Obj.cells #[Value.int .i64 ko, .int .i64 o.k, .int .i64 o.n, .string o.s, .slice D q f] 26) = w0 from HW0.out.symm]
  clear HW0
  go_wp2_with fail
  refine (cntAwake_any _).mono ?_
  rintro e w1 ⟨rfl, bb⟩
  replace R0 := Lib.hid (row_below R0.out bb)
  replace R1 := Lib.hid (row_below R1.out bb)
  replace R2 := Lib.hid (row_below R2.out bb)
  replace HB := Lib.hid (below_then HB.out bb)
  clear bb
  obtain ⟨R00, R01, R02, R03, R04⟩ := cell_row5 R0.out
  try dsimp only at R00 R01 R02 R03 R04
  obtain ⟨R10, R11, R12, R13, R14⟩ := cell_row5 R1.out
  try dsimp only at R10 R11 R12 R13 R14
  obtain ⟨R20, R21, R22, R23, R24⟩ := cell_row5 R2.out
  try dsimp only at R20 R21 R22 R23 R24
  go_wp2_with fail
  refine (CA.out _).mono ?_
  rintro e w2 ⟨rfl, bb⟩
  replace R0 := Lib.hid (row_below R0.out bb)
  replace R1 := Lib.hid (row_below R1.out bb)
  replace R2 := Lib.hid (row_below R2.out bb)
  replace HB := Lib.hid (below_then HB.out bb)
  clear bb
  clear R00 R01 R02 R03 R04 R10 R11 R12 R13 R14 R20 R21 R22 R23 R24
  obtain ⟨w3, hw⟩ : ∃ w', w' = w2.alloc (cellRow ky y (.slice none 0 0)) := ⟨_, rfl⟩
  have RA : Hid (w3.heap[w2.heap.size]? = some (cellRow ky y (.slice none 0 0))) := by rw [hw]; exact heap_alloc_new _ _
  have bb : Below w2.heap.size w2 w3 := by rw [hw]; exact below_new (Below.refl _ _) _
  replace hw := Lib.hid hw
  replace R0 := Lib.hid (row_below R0.out bb)
  replace R1 := Lib.hid (row_below R1.out bb)
  replace R2 := Lib.hid (row_below R2.out bb)
  replace HB := Lib.hid (below_then HB.out bb)
  clear bb
  go_upto_region 3 with fail
  rw [show w2.alloc (Obj.cells #[Value.int .i64 ky, .int .i64 y.k, .int .i64 y.n, .string y.s, .slice none 0 0] 26) = w3 from hw.out.symm]
  clear hw
  generalize w2.heap.size = gRA at RA ⊢
  obtain ⟨R00, R01, R02, R03, R04⟩ := cell_row5 R0.out
  try dsimp only at R00 R01 R02 R03 R04
  obtain ⟨R10, R11, R12, R13, R14⟩ := cell_row5 R1.out
  try dsimp only at R10 R11 R12 R13 R14
  obtain ⟨R20, R21, R22, R23, R24⟩ := cell_row5 R2.out
  try dsimp only at R20 R21 R22 R23 R24
  go_wp2_with fail
  refine (CA2.out _).mono ?_
  rintro e w4 ⟨rfl, bb⟩
  replace R0 := Lib.hid (row_below R0.out bb)
  replace R1 := Lib.hid (row_below R1.out bb)
  replace R2 := Lib.hid (row_below R2.out bb)
  replace RA := Lib.hid (row_below RA.out bb)
  replace HB := Lib.hid (below_then HB.out bb)
  clear bb
  clear R00 R01 R02 R03 R04 R10 R11 R12 R13 R14 R20 R21 R22 R23 R24
  obtain ⟨w5, hw⟩ : ∃ w', w' = w4.alloc (cellRow ky y (.slice none 0 0)) := ⟨_, rfl⟩
  have RB : Hid (w5.heap[w4.heap.size]? = some (cellRow ky y (.slice none 0 0))) := by rw [hw]; exact heap_alloc_new _ _
  have bb : Below w4.heap.size w4 w5 := by rw [hw]; exact below_new (Below.refl _ _) _
  replace hw := Lib.hid hw
  replace R0 := Lib.hid (row_below R0.out bb)
  replace R1 := Lib.hid (row_below R1.out bb)
  replace R2 := Lib.hid (row_below R2.out bb)
  replace RA := Lib.hid (row_below RA.out bb)
  replace HB := Lib.hid (below_then HB.out bb)
  clear bb
  go_upto_region 4 with fail
  rw [show w4.alloc (Obj.cells #[Value.int .i64 ky, .int .i64 y.k, .int .i64 y.n, .string y.s, .slice none 0 0] 26) = w5 from hw.out.symm]
  clear hw
  generalize w4.heap.size = gRB at RB ⊢
  obtain ⟨RA0, RA1, RA2, RA3, RA4⟩ := cell_row5 RA.out
  try dsimp only at RA0 RA1 RA2 RA3 RA4
  obtain ⟨RB0, RB1, RB2, RB3, RB4⟩ := cell_row5 RB.out
  try dsimp only at RB0 RB1 RB2 RB3 RB4
  go_wp2_with fail
  refine (same_self _ _ _ _ _).mono ?_
  rintro e w6 ⟨rfl, bb⟩
  replace R0 := Lib.hid (row_below R0.out bb)
  replace R1 := Lib.hid (row_below R1.out bb)
  replace R2 := Lib.hid (row_below R2.out bb)
  replace RA := Lib.hid (row_below RA.out bb)
  replace RB := Lib.hid (row_below RB.out bb)
  replace HB := Lib.hid (below_then HB.out bb)
  clear bb
  go_wp2_with fail
  go_ret
  exact ⟨rfl, HB.out⟩

set_option maxRecDepth 100000 in
theorem contract (H : Type) (enc : TypeId × Value → H) (W : World) (base : Nat) (args : Array Value) (ds gs : List (DataW H)) (before : List MemPlace)
    (hval : ∀ (j : Nat) t v, Try.f11.params[j]? = some t → args[j]? = some v → Value.okWide Try.prog W .any base t v)
    (hW : DataW.Whole enc Try.prog Try.f11.params.toList Rows.countMergesSpec.vars false W args.toList ds gs before) :
    Calls Try.prog 11 args W fun e W' => ∃ v, e = .returned v ∧ Rows.countMergesSpec.post enc Try.prog Try.f11 false true false false W args v W' := by
  have hlt : ∀ x ∈ before, x.block < W.heap.size := fun x hx => by simpa using hW.lt x hx
  refine law_step 4 Try.laid_ (by kernel_rfl) rfl Try.underlying4 rfl hW (fun xs hx => ?_) ?_
  · match xs, hx with
    | [d0, d1, d2], _ => rfl
  · obtain ⟨p, q, hA0, hV, rfl, _, _⟩ := hW
    have hA : DataW.TrodAll enc Try.prog W 0 (fun _ => true) true Try.f11.params.toList args.toList ds p := hA0
    rw [Try.params11] at hA hval
    obtain ⟨v0, vs0, d0, ds0, p0, q0, e0, rfl, rfl, h0, r0⟩ := trodAll_cons hA
    obtain ⟨v1, vs1, d1, ds1, p1, q1, e1, rfl, rfl, h1, r1⟩ := trodAll_cons r0
    obtain ⟨v2, vs2, d2, ds2, p2, q2, e2, rfl, rfl, h2, r2⟩ := trodAll_cons r1
    obtain ⟨rfl, rfl, rfl⟩ := trodAll_nil r2
    subst e2
    subst e1
    obtain rfl : args = #[v0, v1, v2] := by cases args; simp_all
    clear e0 hA0
    obtain ⟨k0, u0, A0, n0, c0, l, rfl, rd0, wk0, wu0, wl0⟩ := open_cell (hval 0 26 v0 rfl rfl) h0
    obtain ⟨k1, u1, A1, n1, c1, l2, rfl, rd1, wk1, wu1, wl1⟩ := open_cell (hval 1 26 v1 rfl rfl) h1
    obtain ⟨k2, u2, A2, n2, c2, l3, rfl, rd2, wk2, wu2, wl2⟩ := open_cell (hval 2 26 v2 rfl rfl) h2
    exact walk k0 k1 k2 u0 u1 u2 A0 A1 A2 n0 c0 n1 c1 n2 c2 W

set_option maxRecDepth 100000 in
theorem lifted (os : Os) (started : os.Started) (H : Type) (enc : TypeId × Value → H) :
    ReturnsInHanded {} Try.checked os 11 .any (Rows.countMergesSpec.pre6 enc Try.prog Try.f11 Rows.countMergesRow.domain false) (Rows.countMergesSpec.post enc Try.prog Try.f11 false true false false) := by
  refine returnsInHanded_of_change (C := Try.checked) Try.own_ started (by kernel_rfl) Try.func11
    (ChangeSpec.witness6 (enc := enc) (C := Try.checked) false ⟨#[], #[.agg #[.int .i64 0, .int .i64 0, .int .i64 0, .string ⟨#[]⟩, .slice none 0 0], .agg #[.int .i64 0, .int .i64 0, .int .i64 0, .string ⟨#[]⟩, .slice none 0 0], .agg #[.int .i64 0, .int .i64 0, .int .i64 0, .string ⟨#[]⟩, .slice none 0 0]], []⟩ 8 (by kernel_rfl) (by kernel_rfl) (by kernel_rfl) (by kernel_rfl)) ?_
  intro W base args ds gs before hval hW _ _
  exact contract H enc W base args ds gs before hval hW

theorem holds : Rows.CountMergesSaid :=
  OpenClaim.holds_of_wide 11 Try.f11 rfl rfl rfl rfl rfl rfl rfl ⟨rfl, rfl, rfl, rfl, rfl⟩ rfl rfl rfl rfl rfl (by kernel_rfl) Try.func11 (by kernel_rfl)
    (of_decide_eq_true (by kernel_rfl)) (by unfold Func.isWrapper; first | (rw [if_pos (by decide +kernel)]; kernel_rfl) | (rw [if_neg (by decide +kernel)]; exact ⟨rfl, rfl⟩))
    (fun os started H enc _ => lifted os started H enc)
end Go.Proofs.Ytieaobeidlhefaa.countMerges
