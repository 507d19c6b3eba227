/- Which cells may be is what the document says. Of all cells. -/
import Derived.Test.YtieaobeidlhefaaRows
import Derived.Test.YtieaobeidlhefaaLaw
import Derived.Test.YtieaobeidlhefaaMulAlive
import Derived.Test.YtieaobeidlhefaaMbOpen
namespace Go.Proofs.Ytieaobeidlhefaa.multiRight
open Go.ChangeShapes Go.WideShapes Go.ChangeAt Go.RowKit Go.ChangeMaps

set_option maxRecDepth 100000 in
set_option maxHeartbeats 12800000 in
theorem walk (k : Int) (u : V3) (A : Option Addr) (n c : Nat) (l : List P11) (w : World) (h : RdP w A n c l) :
    Calls Try.prog 3 #[cellV k u (.slice A n c)] w fun e w' => e = .returned (.bool true) ∧ Below w.heap.size w w' := by
  have HB := Lib.hid (Below.refl w.heap.size w)
  have RD := Lib.hid h
  clear h
  by_cases hn : n ≤ 60
  · have FW : Hid (∀ W : World, Calls Try.prog 15 #[cellV k u (.slice A n c)] W fun e w' => e = .returned (.bool true) ∧ Below W.heap.size W w') := by
      intro W
      have := refFew_any k u A n c W
      rwa [decide_eq_true (by omega)] at this
    clear hn
    obtain ⟨g, hg⟩ : ∃ g, g = w.heap.size := ⟨_, rfl⟩
    obtain ⟨w0, hw0⟩ : ∃ w1, w1 = (w.alloc (cellRow k u (.slice A n c))) := ⟨_, rfl⟩
    have HW0 := Lib.hid hw0; have HG := Lib.hid hg
    have hat : ∀ (w : World) (o : Obj) (g : Nat), w.heap.size = g → (w.alloc o).heap[g]? = some o := fun w o g h => by subst h; exact heap_alloc_new _ _
    have bb : Below w.heap.size w w0 := by rw [hw0]; exact below_new (Below.refl _ _) _
    have RX : Hid (w0.heap[g]? = some (cellRow k u (.slice A n c))) := by
      show _ = _
      rw [hw0, hg]
      skip
      exact hat _ _ _ rfl
    replace RD := Lib.hid (RD.out.below bb)
    replace HB := Lib.hid (below_then HB.out bb)
    clear bb hg hw0 hat
    go_enter Try.func3, Try.ntmps3
    go_upto_region 1 with fail
    rw [← HG.out]
    rw [show (w.alloc (Obj.cells #[Value.int .i64 k, .int .i64 u.k, .int .i64 u.n, .string u.s, .slice A n c] 26)) = w0 from HW0.out.symm]
    clear HW0
    obtain ⟨RX0, RX1, RX2, RX3, RX4⟩ := cell_row5 RX.out
    go_wp2_with fail
    refine (FW.out _).mono ?_
    rintro e v1 ⟨rfl, bb⟩
    replace RX := Lib.hid (row_below RX.out bb)
    replace RD := Lib.hid (RD.out.below bb)
    replace HB := Lib.hid (below_then HB.out bb)
    clear bb
    clear RX0 RX1 RX2 RX3 RX4
    obtain ⟨r, hr⟩ : ∃ r, rightC k u l = r := ⟨_, rfl⟩
    have CR : Hid (∀ W : World, Below v1.heap.size v1 W → Calls Try.prog 17 #[cellV k u (.slice A n c)] W fun e w' => e = .returned (.bool r) ∧ Below W.heap.size W w') := by
      intro W hW; rw [← hr]; exact right7_any k u A n c l W (RD.out.below hW)
    have CR2 : Hid (∀ W : World, Below v1.heap.size v1 W → Calls Try.prog 18 #[cellV k u (.slice A n c)] W fun e w' => e = .returned (.bool r) ∧ Below W.heap.size W w') := by
      intro W hW; rw [← hr]; exact refRight7_any k u A n c l W (RD.out.below hW)
    clear hr
    obtain ⟨RX0, RX1, RX2, RX3, RX4⟩ := cell_row5 RX.out
    have hS0 : Below v1.heap.size v1 v1 ∧ v1.cell? ⟨g, 0, none⟩ = some (.int .i64 k) ∧ v1.cell? ⟨g, 1, none⟩ = some (.int .i64 u.k) ∧ v1.cell? ⟨g, 2, none⟩ = some (.int .i64 u.n) ∧ v1.cell? ⟨g, 3, none⟩ = some (.string u.s) ∧ v1.cell? ⟨g, 4, none⟩ = some (.slice A n c) := ⟨Below.refl _ _, RX0, RX1, RX2, RX3, RX4⟩
    have K : Hid (∀ W W' : World, (Below v1.heap.size v1 W ∧ W.cell? ⟨g, 0, none⟩ = some (.int .i64 k) ∧ W.cell? ⟨g, 1, none⟩ = some (.int .i64 u.k) ∧ W.cell? ⟨g, 2, none⟩ = some (.int .i64 u.n) ∧ W.cell? ⟨g, 3, none⟩ = some (.string u.s) ∧ W.cell? ⟨g, 4, none⟩ = some (.slice A n c)) → Below W.heap.size W W' → (Below v1.heap.size v1 W' ∧ W'.cell? ⟨g, 0, none⟩ = some (.int .i64 k) ∧ W'.cell? ⟨g, 1, none⟩ = some (.int .i64 u.k) ∧ W'.cell? ⟨g, 2, none⟩ = some (.int .i64 u.n) ∧ W'.cell? ⟨g, 3, none⟩ = some (.string u.s) ∧ W'.cell? ⟨g, 4, none⟩ = some (.slice A n c))) := by
      rintro W W' ⟨kk, k0, k1, k2, k3, k4⟩ hb
      have hc : ∀ (p : Addr) (y : Value), W.cell? p = some y → W'.cell? p = some y := fun p y h2 => (hb.cell (World.block_lt_of_cell? _ _ h2)).trans h2
      exact ⟨below_then kk hb, hc _ _ k0, hc _ _ k1, hc _ _ k2, hc _ _ k3, hc _ _ k4⟩
    go_upto_region 3 with fail
    go_region_held3 (fun W => Below v1.heap.size v1 W ∧ W.cell? ⟨g, 0, none⟩ = some (.int .i64 k) ∧ W.cell? ⟨g, 1, none⟩ = some (.int .i64 u.k) ∧ W.cell? ⟨g, 2, none⟩ = some (.int .i64 u.n) ∧ W.cell? ⟨g, 3, none⟩ = some (.string u.s) ∧ W.cell? ⟨g, 4, none⟩ = some (.slice A n c))
      (first
        | exact K.out _ _ hS0 ((Below.refl _ _).drew)
        | exact K.out _ _ (by assumption) bb
        | exact K.out _ _ (by assumption) ((Below.refl _ _).alloc (Nat.le_refl _) _)
        | exact K.out _ _ hS0 (((Below.refl _ _).alloc (Nat.le_refl _) _).drew)
        | assumption)
      (first
        | (go_at_call 16; refine (alive7_any _).mono ?_; rintro e wx ⟨rfl, bb⟩)
        | (go_at_call 17; refine (CR.out _ (by first | exact Below.refl _ _ | exact (Below.refl _ _).drew | (go_split_ands; assumption))).mono ?_; rintro e wx ⟨rfl, bb⟩)
        | (go_at_call 18; refine (CR2.out _ (by first | exact Below.refl _ _ | exact (Below.refl _ _).drew | (go_split_ands; assumption))).mono ?_; rintro e wx ⟨rfl, bb⟩))
    have hSz : Below v1.heap.size v1 wx ∧ wx.cell? ⟨g, 0, none⟩ = some (.int .i64 k) ∧ wx.cell? ⟨g, 1, none⟩ = some (.int .i64 u.k) ∧ wx.cell? ⟨g, 2, none⟩ = some (.int .i64 u.n) ∧ wx.cell? ⟨g, 3, none⟩ = some (.string u.s) ∧ wx.cell? ⟨g, 4, none⟩ = some (.slice A n c) := by assumption
    have HZ := below_then HB.out hSz.1
    go_wp2_with fail
    go_ret
    exact ⟨rfl, HZ⟩
  · have FW : Hid (∀ W : World, Calls Try.prog 15 #[cellV k u (.slice A n c)] W fun e w' => e = .returned (.bool false) ∧ Below W.heap.size W w') := by
      intro W
      have := refFew_any k u A n c W
      rwa [decide_eq_false (by omega)] at this
    clear hn
    obtain ⟨g, hg⟩ : ∃ g, g = w.heap.size := ⟨_, rfl⟩
    obtain ⟨w0, hw0⟩ : ∃ w1, w1 = (w.alloc (cellRow k u (.slice A n c))) := ⟨_, rfl⟩
    have HW0 := Lib.hid hw0; have HG := Lib.hid hg
    have hat : ∀ (w : World) (o : Obj) (g : Nat), w.heap.size = g → (w.alloc o).heap[g]? = some o := fun w o g h => by subst h; exact heap_alloc_new _ _
    have bb : Below w.heap.size w w0 := by rw [hw0]; exact below_new (Below.refl _ _) _
    have RX : Hid (w0.heap[g]? = some (cellRow k u (.slice A n c))) := by
      show _ = _
      rw [hw0, hg]
      skip
      exact hat _ _ _ rfl
    replace RD := Lib.hid (RD.out.below bb)
    replace HB := Lib.hid (below_then HB.out bb)
    clear bb hg hw0 hat
    go_enter Try.func3, Try.ntmps3
    go_upto_region 1 with fail
    rw [← HG.out]
    rw [show (w.alloc (Obj.cells #[Value.int .i64 k, .int .i64 u.k, .int .i64 u.n, .string u.s, .slice A n c] 26)) = w0 from HW0.out.symm]
    clear HW0
    obtain ⟨RX0, RX1, RX2, RX3, RX4⟩ := cell_row5 RX.out
    go_wp2_with fail
    refine (FW.out _).mono ?_
    rintro e v1 ⟨rfl, bb⟩
    replace RX := Lib.hid (row_below RX.out bb)
    replace RD := Lib.hid (RD.out.below bb)
    replace HB := Lib.hid (below_then HB.out bb)
    clear bb
    clear RX0 RX1 RX2 RX3 RX4
    go_wp2_with fail
    refine (alive7_any _).mono ?_
    rintro e v2 ⟨rfl, bb⟩
    replace RX := Lib.hid (row_below RX.out bb)
    replace RD := Lib.hid (RD.out.below bb)
    replace HB := Lib.hid (below_then HB.out bb)
    clear bb
    go_wp2_with fail
    go_ret
    exact ⟨rfl, HB.out⟩

set_option maxRecDepth 100000 in
theorem contract (H : Type) (enc : TypeId × Value → H) (W : World) (base : Nat) (args : Array Value) (ds gs : List (DataW H)) (before : List MemPlace)
    (hval : ∀ (j : Nat) t v, Try.f3.params[j]? = some t → args[j]? = some v → Value.okWide Try.prog W .any base t v)
    (hW : DataW.Whole enc Try.prog Try.f3.params.toList Rows.multiRightSpec.vars false W args.toList ds gs before) :
    Calls Try.prog 3 args W fun e W' => ∃ v, e = .returned v ∧ Rows.multiRightSpec.post enc Try.prog Try.f3 false true false false W args v W' := by
  have hlt : ∀ x ∈ before, x.block < W.heap.size := fun x hx => by simpa using hW.lt x hx
  refine law_step 4 Try.laid_ (by kernel_rfl) rfl Try.underlying4 rfl hW (fun xs hx => ?_) ?_
  · match xs, hx with
    | [d0], _ => rfl
  · obtain ⟨p, q, hA0, hV, rfl, _, _⟩ := hW
    have hA : DataW.TrodAll enc Try.prog W 0 (fun _ => true) true Try.f3.params.toList args.toList ds p := hA0
    rw [Try.params3] at hA hval
    obtain ⟨v0, vs0, d0, ds0, p0, q0, e0, rfl, rfl, h0, r0⟩ := trodAll_cons hA
    obtain ⟨rfl, rfl, rfl⟩ := trodAll_nil r0
    obtain rfl : args = #[v0] := by cases args; simp_all
    clear e0 hA0
    obtain ⟨k0, u0, A0, n0, c0, l, rfl, rd0, wk0, wu0, wl0⟩ := open_cell (hval 0 26 v0 rfl rfl) h0
    exact walk k0 u0 A0 n0 c0 l W rd0

set_option maxRecDepth 100000 in
theorem lifted (os : Os) (started : os.Started) (H : Type) (enc : TypeId × Value → H) :
    ReturnsInHanded {} Try.checked os 3 .any (Rows.multiRightSpec.pre6 enc Try.prog Try.f3 Rows.multiRightRow.domain false) (Rows.multiRightSpec.post enc Try.prog Try.f3 false true false false) := by
  refine returnsInHanded_of_change (C := Try.checked) Try.own_ started (by kernel_rfl) Try.func3
    (ChangeSpec.witness6 (enc := enc) (C := Try.checked) false ⟨#[], #[.agg #[.int .i64 0, .int .i64 0, .int .i64 0, .string ⟨#[]⟩, .slice none 0 0]], []⟩ 8 (by kernel_rfl) (by kernel_rfl) (by kernel_rfl) (by kernel_rfl)) ?_
  intro W base args ds gs before hval hW _ _
  exact contract H enc W base args ds gs before hval hW

theorem holds : Rows.MultiRightSaid :=
  OpenClaim.holds_of_wide 3 Try.f3 rfl rfl rfl rfl rfl rfl rfl ⟨rfl, rfl, rfl, rfl, rfl⟩ rfl rfl rfl rfl rfl (by kernel_rfl) Try.func3 (by kernel_rfl)
    (of_decide_eq_true (by kernel_rfl)) (by unfold Func.isWrapper; first | (rw [if_pos (by decide +kernel)]; kernel_rfl) | (rw [if_neg (by decide +kernel)]; exact ⟨rfl, rfl⟩))
    (fun os started H enc _ => lifted os started H enc)
end Go.Proofs.Ytieaobeidlhefaa.multiRight
