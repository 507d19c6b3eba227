/- Whatever schema comes in: SchemaRight answers true: which schemas may be, and why another one may not, is what the document says. No condition. -/
import Derived.Test.YtogfnjlhfbpneaaRows
import Derived.Test.YtogfnjlhfbpneaaLaw
import Derived.Test.YtogfnjlhfbpneaaSchAlive
import Derived.Test.YtogfnjlhfbpneaaSchOpen
namespace Go.Proofs.Ytogfnjlhfbpneaa.schemaRight
open Go.ChangeShapes Go.WideShapes Go.ChangeAt Go.RowKit Go.ChangeMaps

set_option maxRecDepth 100000 in
set_option maxHeartbeats 12800000 in
theorem walk (A : Option Addr) (n c : Nat) (l : List T6) (w : World) (h : RdS w A n c l) (hsm : ∀ t ∈ l, t.Small) : Calls Try.prog 4 #[.agg #[.slice A n c]] w fun e w' => e = .returned (.bool true) ∧ Below w.heap.size w w' := by
  have HB0 := Lib.hid (Below.refl w.heap.size w)
  obtain ⟨w1, hw1⟩ : ∃ w1, w1 = w.alloc (schBox A n c) := ⟨_, rfl⟩
  have HW1 := Lib.hid hw1
  have HB1 : Hid (Below w.heap.size w w1) := by rw [hw1]; exact below_new (Below.refl _ _) _
  have R1 : Hid (w1.heap[w.heap.size]? = some (schBox A n c)) := by rw [hw1]; exact heap_alloc_new _ _
  have HS1 := Lib.hid (h.below HB1.out)
  obtain ⟨f, hf⟩ : ∃ f, Hid (fewB l = f) := ⟨_, rfl⟩
  have CF : Hid (∀ W, RdS W A n c l → Calls Try.prog 13 #[.agg #[.slice A n c]] W fun e w' => e = .returned (.bool f) ∧ Below W.heap.size W w') := fun W hW => by rw [← hf.out]; exact refFew_any A n c l W hW hsm
  have hle := h.le
  have HL := Lib.hid h.len
  clear hw1 h hsm
  have s0 := sch_row R1.out
  go_enter Try.func4, Try.ntmps4
  go_upto_region 1 with fail
  rw [show w.alloc (schBox A n c) = w1 from HW1.out.symm]
  clear HW1
  go_wp2_with fail
  refine (CF.out _ HS1.out).mono ?_
  rintro e w2 ⟨rfl, b2⟩
  have HB2 := Lib.hid (below_then HB1.out b2)
  have R2 := Lib.hid (row_below R1.out b2)
  have HS2 := Lib.hid (HS1.out.below b2)
  clear b2 CF HB1 R1 HS1 s0 HB0
  have s0 := sch_row R2.out
  cases f with
  | false =>
    go_wp2_with fail
    refine (alive11_any _).mono ?_
    rintro e wz ⟨rfl, bz⟩
    have HZ := Lib.hid (below_then HB2.out bz)
    clear bz
    go_wp2_with fail
    go_ret
    exact ⟨rfl, HZ.out⟩
  | true =>
    obtain ⟨E, hE⟩ : ∃ E, Hid (rightE l = E) := ⟨_, rfl⟩
    have C1 : Hid (∀ W, Below w2.heap.size w2 W → Calls Try.prog 14 #[.agg #[.slice A n c]] W fun e w' => e = .returned (.int .i64 E) ∧ Below W.heap.size W w') := fun W hW => by rw [← hE.out]; exact right11_any A n c l W (HS2.out.below hW)
    have C2 : Hid (∀ W, Below w2.heap.size w2 W → Calls Try.prog 15 #[.agg #[.slice A n c]] W fun e w' => e = .returned (.int .i64 E) ∧ Below W.heap.size W w') := fun W hW => by rw [← hE.out]; exact refRight11_any A n c l W (HS2.out.below hW)
    have q1 : Below w2.heap.size w2 w2.drew := (Below.refl _ _).drew
    have q2 : w2.drew.cell? ⟨w.heap.size, 0, none⟩ = some (.slice A n c) := s0
    go_wp2_with fail
    clear s0
    go_region_held3 (fun W => Below w2.heap.size w2 W ∧ W.cell? ⟨w.heap.size, 0, none⟩ = some (.slice A n c))
      (first
        | (go_split_ands
           refine ⟨?_, ?_⟩
           · exact below_then (by assumption) bb
           all_goals exact (bb.cell (World.block_lt_of_cell? _ _ (by assumption))).trans (by assumption))
        | (go_split_ands
           refine ⟨?_, ?_⟩
           · exact Below.drew (by assumption)
           all_goals (show World.cell? _ _ = _; assumption))
        | (go_split_ands
           refine ⟨?_, ?_⟩
           all_goals assumption))
      (first
        | (go_at_call 10; refine (alive11_any _).mono ?_; rintro e wx ⟨rfl, bb⟩)
        | (go_at_call 14; refine (C1.out _ (by go_split_ands; assumption)).mono ?_; rintro e wx ⟨rfl, bb⟩)
        | (go_at_call 15; refine (C2.out _ (by go_split_ands; assumption)).mono ?_; rintro e wx ⟨rfl, bb⟩))
    all_goals
      go_split_ands
      have HZ := Lib.hid (below_then HB2.out (show Below w2.heap.size w2 wx by assumption))
      go_wp2_with fail
      go_ret
      exact ⟨by simp, HZ.out⟩

set_option maxRecDepth 100000 in
theorem contract (H : Type) (enc : TypeId × Value → H) (W : World) (base : Nat) (args : Array Value) (ds gs : List (DataW H)) (before : List MemPlace)
    (hval : ∀ (j : Nat) t v, Try.f4.params[j]? = some t → args[j]? = some v → Value.okWide Try.prog W .any base t v)
    (hW : DataW.Whole enc Try.prog Try.f4.params.toList Rows.schemaRightSpec.vars false W args.toList ds gs before)
    (hsz : (DataW.weightsEach Try.prog (Try.f4.params.toList ++ Rows.schemaRightSpec.plain.varTypes Try.prog) (ds ++ gs)).all (· ≤ reachBytes) = true) :
    Calls Try.prog 4 args W fun e W' => ∃ v, e = .returned v ∧ Rows.schemaRightSpec.post enc Try.prog Try.f4 false true false false W args v W' := by
  have hlt : ∀ x ∈ before, x.block < W.heap.size := fun x hx => by simpa using hW.lt x hx
  refine law_step 4 Try.laid_ (by kernel_rfl) rfl Try.underlying4 rfl hW (fun xs hx => ?_) ?_
  · match xs, hx with
    | [d0], _ => rfl
  · obtain ⟨p, q, hA0, hV, rfl, _, _⟩ := hW
    have hA : DataW.TrodAll enc Try.prog W 0 (fun _ => true) true Try.f4.params.toList args.toList ds p := hA0
    rw [Try.params4] at hA hval hsz
    obtain ⟨v0, vs0, d0, ds0, p0, q0, e0, rfl, rfl, h0, r0⟩ := trodAll_cons hA
    obtain ⟨rfl, rfl, rfl⟩ := trodAll_nil r0
    obtain rfl : args = #[v0] := by cases args; simp_all
    clear e0 hA0
    have hw0 : ∀ x ∈ d0.weights Try.prog 26, x ≤ reachBytes := fun x hx => by simpa using List.all_eq_true.1 hsz _ (DataW.weights_mem_each (j := 0) rfl rfl x hx)
    obtain ⟨A0, n0, c0, l0, rfl, rd0, sm0⟩ := open_schema (hval 0 26 v0 rfl rfl) h0 hw0
    exact walk A0 n0 c0 l0 W rd0 sm0

set_option maxRecDepth 100000 in
theorem lifted (os : Os) (started : os.Started) (H : Type) (enc : TypeId × Value → H) :
    ReturnsInHanded {} Try.checked os 4 .any (Rows.schemaRightSpec.pre6 enc Try.prog Try.f4 Rows.schemaRightRow.domain false) (Rows.schemaRightSpec.post enc Try.prog Try.f4 false true false false) := by
  refine returnsInHanded_of_change_sized (C := Try.checked) Try.own_ started (by kernel_rfl) Try.func4
    (ChangeSpec.witness6 (enc := enc) (C := Try.checked) false ⟨#[], #[.agg #[.slice none 0 0]], []⟩ 8 (by kernel_rfl) (by kernel_rfl) (by kernel_rfl) (by kernel_rfl)) ?_
  intro W base args ds gs before hval hW _ hsz _
  exact contract H enc W base args ds gs before hval hW hsz

theorem holds : Rows.SchemaRightSaid :=
  OpenClaim.holds_of_wide 4 Try.f4 rfl rfl rfl rfl rfl rfl rfl ⟨rfl, rfl, rfl, rfl, rfl⟩ rfl rfl rfl rfl rfl (by kernel_rfl) Try.func4 (by kernel_rfl)
    (of_decide_eq_true (by kernel_rfl)) (by unfold Func.isWrapper; first | (rw [if_pos (by decide +kernel)]; kernel_rfl) | (rw [if_neg (by decide +kernel)]; exact ⟨rfl, rfl⟩))
    (fun os started H enc _ => lifted os started H enc)
end Go.Proofs.Ytogfnjlhfbpneaa.schemaRight
