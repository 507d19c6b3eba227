/- Of any two values package value and the document's answer say the same: whether each may be, which is ahead, whether they are one, and what is shown: ValueTells answers true. No condition. -/
import Derived.Test.YtkicjhphiibifaaDoorCards
import Derived.Test.YtkicjhphiibifaaDoorLaid
import Derived.Lib.SmallJoins
import Derived.Test.YtkicjhphiibifaaDoorValRefRead
import Derived.Test.YtkicjhphiibifaaDoorValAwake
namespace Go.Proofs.YtkicjhphiibifaaDoor.valueTells
open Go.ChangeShapes Go.WideShapes Go.ChangeAt Go.RowKit Go.ChangeMaps
set_option maxRecDepth 100000

set_option maxHeartbeats 12800000 in
theorem walk (ka na kb nb : Int) (sa sb : ByteArray) (w : World) (h1 : -9223372036854775808 ≤ na) (h2 : na ≤ 9223372036854775807) (hv : Vars w) :
    Calls Tryd.prog 3 #[.agg #[.int .i64 ka, .int .i64 na, .string sa], .agg #[.int .i64 kb, .int .i64 nb, .string sb]] w fun e w' => e = .returned (.bool true) ∧ Below w.heap.size w w' := by
  have AW : Hid (∀ W, Vars W → Calls Tryd.prog 9 #[] W fun e w' => e = .returned (.bool true) ∧ Below W.heap.size W w') := Lib.hid awake_any
  have H1 := (Held.alloc (Held.alloc (⟨hv, Below.refl _ _⟩ : Held w w) (.cells #[.int .i64 ka, .int .i64 na, .string sa] 23)) (.cells #[.int .i64 kb, .int .i64 nb, .string sb] 23))
  have ra := row_below (heap_alloc_new w (.cells #[.int .i64 ka, .int .i64 na, .string sa] 23)) (below_new (Below.refl _ _) (.cells #[.int .i64 kb, .int .i64 nb, .string sb] 23))
  have rb := heap_alloc_new (w.alloc (.cells #[.int .i64 ka, .int .i64 na, .string sa] 23)) (.cells #[.int .i64 kb, .int .i64 nb, .string sb] 23)
  rw [World.size_alloc] at rb
  have RA := Lib.hid ra; have RB := Lib.hid rb; clear ra rb
  have stop : ∀ W : World, Held w W → Below w.heap.size w W := fun W h => h.bel
  by_cases ha : sa.size ≤ 300
  · by_cases hb : sb.size ≤ 300
    · obtain ⟨r, CR, CRr⟩ : ∃ r : Bool, Hid (∀ W, Calls Tryd.prog 10 #[.agg #[.int .i64 ka, .int .i64 na, .string sa]] W fun e w' => e = .returned (.bool r) ∧ Below W.heap.size W w') ∧
          Hid (∀ W, Calls Tryd.prog 11 #[.agg #[.int .i64 ka, .int .i64 na, .string sa]] W fun e w' => e = .returned (.bool r) ∧ Below W.heap.size W w') :=
        ⟨_, Lib.hid fun W => right_any ka na sa W (by omega), Lib.hid fun W => refRight_any ka na sa W (by omega)⟩
      obtain ⟨l, CL, CLr⟩ : ∃ l : Bool, Hid (∀ W, Calls Tryd.prog 12 #[.agg #[.int .i64 ka, .int .i64 na, .string sa], .agg #[.int .i64 kb, .int .i64 nb, .string sb]] W fun e w' => e = .returned (.bool l) ∧ Below W.heap.size W w') ∧
          Hid (∀ W, Calls Tryd.prog 13 #[.agg #[.int .i64 ka, .int .i64 na, .string sa], .agg #[.int .i64 kb, .int .i64 nb, .string sb]] W fun e w' => e = .returned (.bool l) ∧ Below W.heap.size W w') :=
        ⟨_, Lib.hid fun W => less_any ka na kb nb sa sb W, Lib.hid fun W => refLess_any ka na kb nb sa sb W⟩
      obtain ⟨m, CS, CSr⟩ : ∃ m : Bool, Hid (∀ W, Calls Tryd.prog 14 #[.agg #[.int .i64 ka, .int .i64 na, .string sa], .agg #[.int .i64 kb, .int .i64 nb, .string sb]] W fun e w' => e = .returned (.bool m) ∧ Below W.heap.size W w') ∧
          Hid (∀ W, Calls Tryd.prog 15 #[.agg #[.int .i64 ka, .int .i64 na, .string sa], .agg #[.int .i64 kb, .int .i64 nb, .string sb]] W fun e w' => e = .returned (.bool m) ∧ Below W.heap.size W w') :=
        ⟨_, Lib.hid fun W => valSame_any ka na kb nb sa sb W, Lib.hid fun W => refValSame_any ka na kb nb sa sb W⟩
      obtain ⟨t, CT, CTr⟩ : ∃ t : ByteArray, Hid (∀ W, Vars W → Calls Tryd.prog 16 #[.agg #[.int .i64 ka, .int .i64 na, .string sa]] W fun e w' => e = .returned (.string t) ∧ Below W.heap.size W w') ∧
          Hid (∀ W, Calls Tryd.prog 17 #[.agg #[.int .i64 ka, .int .i64 na, .string sa]] W fun e w' => e = .returned (.string t) ∧ Below W.heap.size W w') :=
        ⟨_, Lib.hid fun W v => show_any ka na sa W h1 h2 (by omega) v, Lib.hid fun W => refShow_any ka na sa W h1 h2 (by omega)⟩
      have ga : ¬ (300 : Int) < sa.size := by omega
      have gb : ¬ (300 : Int) < sb.size := by omega
      go_enter Tryd.func3, Tryd.ntmps3
      go_wp2_with fail
      refine (AW.out _ H1.vars).mono ?_
      rintro e w1 ⟨rfl, b1⟩
      have H2 := H1.next b1
      have ra := row_below RA.out b1; have rb := row_below RB.out b1
      have a0 := cell_row ra 0; have a1 := cell_row ra 1; have a2 := cell_row ra 2
      have b0 := cell_row rb 0; have b1 := cell_row rb 1; have b2 := cell_row rb 2
      simp only [List.getElem?_toArray, List.getElem?_cons_zero, List.getElem?_cons_succ] at a0 a1 a2 b0 b1 b2
      clear ra rb H1 hv
      go_wp2_with fail
      go_region_held3 (fun W => Held w W ∧ W.cell? ⟨w.heap.size, 0, none⟩ = some (.int .i64 ka) ∧ W.cell? ⟨w.heap.size, 1, none⟩ = some (.int .i64 na) ∧ W.cell? ⟨w.heap.size, 2, none⟩ = some (.string sa) ∧ W.cell? ⟨w.heap.size + 1, 0, none⟩ = some (.int .i64 kb) ∧ W.cell? ⟨w.heap.size + 1, 1, none⟩ = some (.int .i64 nb) ∧ W.cell? ⟨w.heap.size + 1, 2, none⟩ = some (.string sb))
    (first
      | (go_split_ands
         refine ⟨?_, ?_, ?_, ?_, ?_, ?_, ?_⟩
         · exact Held.next (by assumption) bb
         all_goals exact (bb.cell (World.block_lt_of_cell? _ _ (by assumption))).trans (by assumption))
      | (go_split_ands
         refine ⟨?_, ?_, ?_, ?_, ?_, ?_, ?_⟩
         · exact Held.drew (by assumption)
         all_goals (show World.cell? _ _ = _; assumption))
      | go_keep)
    (first
      | (go_at_call 10; refine (CR.out _).mono ?_; rintro e wx ⟨rfl, bb⟩)
      | (go_at_call 11; refine (CRr.out _).mono ?_; rintro e wx ⟨rfl, bb⟩)
      | (go_at_call 12; refine (CL.out _).mono ?_; rintro e wx ⟨rfl, bb⟩)
      | (go_at_call 13; refine (CLr.out _).mono ?_; rintro e wx ⟨rfl, bb⟩)
      | (go_at_call 14; refine (CS.out _).mono ?_; rintro e wx ⟨rfl, bb⟩)
      | (go_at_call 15; refine (CSr.out _).mono ?_; rintro e wx ⟨rfl, bb⟩)
      | (go_at_call 16; (try go_split_ands); refine (CT.out _ (Held.vars (w := w) (by assumption))).mono ?_; rintro e wx ⟨rfl, bb⟩)
      | (go_at_call 17; refine (CTr.out _).mono ?_; rintro e wx ⟨rfl, bb⟩))
      go_wp2
      all_goals go_ret
      all_goals (try go_split_ands)
      all_goals exact ⟨rfl, Held.bel (w := w) (by assumption)⟩
    · have ga : ¬ (300 : Int) < sa.size := by omega
      have gb : (300 : Int) < sb.size := by omega
      go_enter Tryd.func3, Tryd.ntmps3
      go_wp2_with fail
      refine (AW.out _ H1.vars).mono ?_
      rintro e w1 ⟨rfl, b1⟩
      have H2 := H1.next b1
      have ra := row_below RA.out b1; have rb := row_below RB.out b1
      have a2 := cell_row ra 2; have b2 := cell_row rb 2
      go_wp2
      all_goals go_ret
      all_goals exact ⟨rfl, H2.bel⟩
  · have ga : (300 : Int) < sa.size := by omega
    go_enter Tryd.func3, Tryd.ntmps3
    go_wp2_with fail
    refine (AW.out _ H1.vars).mono ?_
    rintro e w1 ⟨rfl, b1⟩
    have H2 := H1.next b1
    have ra := row_below RA.out b1
    have a2 := cell_row ra 2
    go_wp2
    all_goals go_ret
    all_goals exact ⟨rfl, H2.bel⟩

theorem contract (H : Type) (enc : TypeId × Value → H) (W : World) (base : Nat) (args : Array Value) (ds gs : List (DataW H)) (before : List MemPlace)
    (hval : ∀ (j : Nat) t v, Tryd.f3.params[j]? = some t → args[j]? = some v → Value.okWide Tryd.prog W .any base t v)
    (hW : DataW.Whole enc Tryd.prog Tryd.f3.params.toList Rows.valueTellsSpec.vars false W args.toList ds gs before) (hL : laidMetH Tryd.prog Rows.valueTellsRow.laid W) (hS : W.ShapedOpen Tryd.prog) :
    Calls Tryd.prog 3 args W fun e W' => ∃ v, e = .returned v ∧ Rows.valueTellsSpec.post enc Tryd.prog Tryd.f3 false true false false W args v W' := by
  have hlt : ∀ x ∈ before, x.block < W.heap.size := fun x hx => by simpa using hW.lt x hx
  have hvars : Vars W := vars_of hL hS
  refine law_step 4 Tryd.laid_ (by kernel_rfl) rfl Tryd.underlying4 rfl hW (fun xs hx => ?_) ?_
  · match xs, hx with
    | [d0, d1], _ => rfl
  · obtain ⟨p, q, hA0, hV, rfl, _, _⟩ := hW
    have hA : DataW.TrodAll enc Tryd.prog W 0 (fun _ => true) true Tryd.f3.params.toList args.toList ds p := hA0
    rw [Tryd.params3] at hA hval
    obtain ⟨v0, vs0, d0, ds0, p0, q0, e0, rfl, rfl, h0, r0⟩ := trodAll_cons hA
    obtain ⟨v1, vs1, d1, ds1, p1, q1, e1, rfl, rfl, h1, r1⟩ := trodAll_cons r0
    obtain ⟨rfl, rfl, rfl⟩ := trodAll_nil r1
    subst e1
    obtain rfl : args = #[v0, v1] := by cases args; simp_all
    clear e0 hA0
    obtain ⟨x0, y0, z0, dx0, dy0, dz0, m0, rfl, rfl, rfl, tx0, ty0, tz0⟩ := Go.Joins.open_agg3 Tryd.underlying23 (by kernel_rfl) (by kernel_rfl) (hval 0 23 v0 rfl rfl) h0
    obtain ⟨ka, ek0, _, wk0⟩ := DataW.trod_int Tryd.underlying3 tx0
    obtain ⟨na, en0, _, wn0⟩ := DataW.trod_int Tryd.underlying3 ty0
    obtain ⟨sa, es0, _, ws0⟩ := DataW.trod_string Tryd.underlying9 tz0
    obtain rfl := List.singleton_inj.1 ek0
    obtain rfl := List.singleton_inj.1 en0
    obtain rfl := List.singleton_inj.1 es0
    obtain ⟨lok0, hik0⟩ := wf_i64 wk0
    obtain ⟨lon0, hin0⟩ := wf_i64 wn0
    obtain ⟨x1, y1, z1, dx1, dy1, dz1, m1, rfl, rfl, rfl, tx1, ty1, tz1⟩ := Go.Joins.open_agg3 Tryd.underlying23 (by kernel_rfl) (by kernel_rfl) (hval 1 23 v1 rfl rfl) h1
    obtain ⟨kb, ek1, _, wk1⟩ := DataW.trod_int Tryd.underlying3 tx1
    obtain ⟨nb, en1, _, wn1⟩ := DataW.trod_int Tryd.underlying3 ty1
    obtain ⟨sb, es1, _, ws1⟩ := DataW.trod_string Tryd.underlying9 tz1
    obtain rfl := List.singleton_inj.1 ek1
    obtain rfl := List.singleton_inj.1 en1
    obtain rfl := List.singleton_inj.1 es1
    obtain ⟨lok1, hik1⟩ := wf_i64 wk1
    obtain ⟨lon1, hin1⟩ := wf_i64 wn1
    exact walk ka na kb nb sa sb W lon0 hin0 hvars

theorem reads (os : Os) {H : Type} (enc : TypeId × Value → H) : ∃ places, DataW.whole enc Tryd.prog ((laidWorld os).forCall (fun _ _ => 0) ⟨#[], #[.agg #[.int .i64 0, .int .i64 0, .string ⟨#[]⟩], .agg #[.int .i64 0, .int .i64 0, .string ⟨#[]⟩]], []⟩).memory Tryd.f3.params.toList Rows.valueTellsSpec.vars false #[.agg #[.int .i64 0, .int .i64 0, .string ⟨#[]⟩], .agg #[.int .i64 0, .int .i64 0, .string ⟨#[]⟩]].toList 8 = some ([.agg [.lit (.int .i64 0), .lit (.int .i64 0), .lit (.string [])], .agg [.lit (.int .i64 0), .lit (.int .i64 0), .lit (.string [])]], [], places) :=
  ⟨[], by kernel_rfl⟩

theorem lifted (os : Os) (started : os.Started) (H : Type) (enc : TypeId × Value → H) (F : Stop.Interp) :
    ReturnsInHanded {} Tryd.checked os 3 .any ((OpenSpec.ofChange Rows.valueTellsSpec).preRow enc Tryd.prog Tryd.f3 Rows.valueTellsRow.domain false Rows.valueTellsRow.laid) (((OpenSpec.ofChange Rows.valueTellsSpec).at F).post enc Tryd.prog Tryd.f3 false true false false) := by
  obtain ⟨places, hx⟩ := reads os enc
  refine returnsInHanded_of_row (C := Tryd.checked) (s := OpenSpec.ofChange Rows.valueTellsSpec) Tryd.own_ started (by kernel_rfl) Tryd.func3
    (witness_row_atRef (enc := enc) (C := Tryd.checked) false (laidWorld os) #[.agg #[.int .i64 0, .int .i64 0, .string ⟨#[]⟩], .agg #[.int .i64 0, .int .i64 0, .string ⟨#[]⟩]] rfl (laid_vars os _) (laid_begin os _) (by kernel_rfl)
      (OpenSpec.preRow_of_cond 8 hx (by kernel_rfl) (fun k hk => by cases hk) (by kernel_rfl) (laid_met os _))) ?_
  intro W base args ds gs before hval hW _ _ _ hL hS _
  exact contract H enc W base args ds gs before hval hW hL hS

theorem said : Rows.ValueTellsSaid :=
  OpenClaim.holds_of_cond 3 Tryd.f3 rfl rfl rfl rfl rfl rfl rfl ⟨rfl, rfl, rfl, rfl, rfl⟩ rfl rfl rfl rfl rfl (by kernel_rfl) Tryd.func3 (by kernel_rfl)
    (of_decide_eq_true (by kernel_rfl)) (by unfold Func.isWrapper; first | (rw [if_pos (by decide +kernel)]; kernel_rfl) | (rw [if_neg (by decide +kernel)]; exact ⟨rfl, rfl⟩))
    (fun os started H enc _ F => by rw [OpenClaim.pre_eq_preRow]; exact lifted os started H enc F)

theorem plain (f : FuncId) (fn : Func) (hf : Tryd.pinned.checked.prog.funcNamed "homestead/homesteadlaw02.ValueTells" = some f) (hfn : Tryd.pinned.checked.prog.funcs[f]? = some fn) :
    true = Tryd.pinned.checked.prog.looks [] ∧ ∀ (j : Nat) t, fn.params[j]? = some t → Tryd.pinned.checked.prog.wantsStandIn t = false := by
  obtain rfl : f = 3 := Option.some.inj ((show Tryd.prog.funcNamed "homestead/homesteadlaw02.ValueTells" = some 3 by kernel_rfl).symm.trans hf) |>.symm
  obtain rfl : fn = Tryd.f3 := (Option.some.inj (Tryd.func3.symm.trans hfn)).symm
  refine ⟨by kernel_rfl, fun j t ht => ?_⟩
  rw [Tryd.params3] at ht
  have hm : t ∈ [23, 23] := by simpa using Array.mem_of_getElem? ht
  have hall : [23, 23].all (fun t => !Tryd.prog.wantsStandIn t) = true := by kernel_rfl
  exact (show Tryd.prog.wantsStandIn t = false from by simpa using List.all_eq_true.1 hall t hm)

theorem card : Rows.ValueTellsCardSaid :=
  Claim7.holds_tied_plain_at .later [] _ _ _ _ said (fun _ h => by cases h) (by kernel_rfl) (fun _ h => by cases h) valueTells_row_tie rfl ⟨rfl, rfl⟩ (by kernel_rfl) rfl plain (by kernel_rfl)
end Go.Proofs.YtkicjhphiibifaaDoor.valueTells
