/- Of any text, package value and the document's answer read the same value, or none: ValueReads answers true. No condition. -/
import Derived.Test.YtkicjhphiibifaaDoorCards
import Derived.Test.YtkicjhphiibifaaDoorLaid
import Derived.Lib.SmallJoins
import Derived.Test.YtkicjhphiibifaaDoorValRefRead
import Derived.Test.YtkicjhphiibifaaDoorValAwake
namespace Go.Proofs.YtkicjhphiibifaaDoor.valueReads
open Go.ChangeShapes Go.WideShapes Go.ChangeAt Go.RowKit Go.ChangeMaps
set_option maxRecDepth 100000

set_option maxHeartbeats 6400000 in
theorem walk (s : ByteArray) (w : World) (hv : Vars w) :
    Calls Tryd.prog 4 #[.string s] w fun e w' => e = .returned (.bool true) ∧ Below w.heap.size w w' := by
  have AW : Hid (∀ W, Vars W → Calls Tryd.prog 9 #[] W fun e w' => e = .returned (.bool true) ∧ Below W.heap.size W w') := Lib.hid awake_any
  have H1 : Held w w := ⟨hv, Below.refl _ _⟩
  by_cases ha : s.size ≤ 300
  · obtain ⟨K, N, S, E, CR, CF⟩ : ∃ (K N : Int) (S : ByteArray) (E : Int), Hid (∀ W, Vars W → Calls Tryd.prog 18 #[.string s] W fun e w' => e = .returned (.tuple #[.agg #[.int .i64 K, .int .i64 N, .string S], .int .i64 E]) ∧ Below W.heap.size W w') ∧
        Hid (∀ W, Calls Tryd.prog 19 #[.string s] W fun e w' => e = .returned (.tuple #[.agg #[.int .i64 K, .int .i64 N, .string S], .int .i64 E]) ∧ Below W.heap.size W w') :=
      ⟨_, _, _, _, Lib.hid fun W v => read_any s W (by omega) v, Lib.hid fun W => refRead_any s W (by omega)⟩
    have ga : ¬ (300 : Int) < s.size := by omega
    go_enter Tryd.func4, Tryd.ntmps4
    go_wp2_with fail
    refine (AW.out _ H1.vars).mono ?_
    rintro e w1 ⟨rfl, b1⟩
    have H2 := H1.next b1
    go_wp2_with fail
    refine (CR.out _ H2.vars).mono ?_
    rintro e w2 ⟨rfl, b2⟩
    have H3 := (H2.next b2).alloc (.cells #[.int .i64 K, .int .i64 N, .string S] 23)
    have rx := heap_alloc_new w2 (.cells #[.int .i64 K, .int .i64 N, .string S] 23)
    go_wp2_with fail
    refine (CF.out _).mono ?_
    rintro e w3 ⟨rfl, b3⟩
    have H4 := (H3.next b3).alloc (.cells #[.int .i64 K, .int .i64 N, .string S] 23)
    have ry := heap_alloc_new w3 (.cells #[.int .i64 K, .int .i64 N, .string S] 23)
    have rx := row_below (row_below rx b3) (below_new (Below.refl _ _) (.cells #[.int .i64 K, .int .i64 N, .string S] 23))
    have a0 := cell_row rx 0; have a1 := cell_row rx 1; have a2 := cell_row rx 2
    have c0 := cell_row ry 0; have c1 := cell_row ry 1; have c2 := cell_row ry 2
    simp only [List.getElem?_toArray, List.getElem?_cons_zero, List.getElem?_cons_succ] at a0 a1 a2 c0 c1 c2
    clear rx ry
    go_wp2
    all_goals go_ret
    all_goals exact ⟨rfl, H4.bel⟩
  · have ga : (300 : Int) < s.size := by omega
    go_enter Tryd.func4, Tryd.ntmps4
    go_wp2_with fail
    refine (AW.out _ H1.vars).mono ?_
    rintro e w1 ⟨rfl, b1⟩
    have H2 := H1.next b1
    go_wp2
    all_goals go_ret
    all_goals exact ⟨rfl, H2.bel⟩

theorem contract (H : Type) (enc : TypeId × Value → H) (W : World) (base : Nat) (args : Array Value) (ds gs : List (DataW H)) (before : List MemPlace)
    (hval : ∀ (j : Nat) t v, Tryd.f4.params[j]? = some t → args[j]? = some v → Value.okWide Tryd.prog W .any base t v)
    (hW : DataW.Whole enc Tryd.prog Tryd.f4.params.toList Rows.valueReadsSpec.vars false W args.toList ds gs before) (hL : laidMetH Tryd.prog Rows.valueReadsRow.laid W) (hS : W.ShapedOpen Tryd.prog) :
    Calls Tryd.prog 4 args W fun e W' => ∃ v, e = .returned v ∧ Rows.valueReadsSpec.post enc Tryd.prog Tryd.f4 false true false false W args v W' := by
  have hlt : ∀ x ∈ before, x.block < W.heap.size := fun x hx => by simpa using hW.lt x hx
  have hvars : Vars W := vars_of hL hS
  refine law_step 4 Tryd.laid_ (by kernel_rfl) rfl Tryd.underlying4 rfl hW (fun xs hx => ?_) ?_
  · match xs, hx with
    | [d0], _ => rfl
  · obtain ⟨p, q, hA0, hV, rfl, _, _⟩ := hW
    have hA : DataW.TrodAll enc Tryd.prog W 0 (fun _ => true) true Tryd.f4.params.toList args.toList ds p := hA0
    rw [Tryd.params4] at hA hval
    obtain ⟨v0, vs0, d0, ds0, p0, q0, e0, rfl, rfl, h0, r0⟩ := trodAll_cons hA
    obtain ⟨rfl, rfl, rfl⟩ := trodAll_nil r0
    obtain rfl : args = #[v0] := by cases args; simp_all
    clear e0 hA0
    obtain ⟨s, rfl, rfl, rfl, ws0⟩ := open_string Tryd.underlying9 (hval 0 9 v0 rfl rfl) h0
    exact walk s W hvars

theorem reads (os : Os) {H : Type} (enc : TypeId × Value → H) : ∃ places, DataW.whole enc Tryd.prog ((laidWorld os).forCall (fun _ _ => 0) ⟨#[], #[.string ⟨#[]⟩], []⟩).memory Tryd.f4.params.toList Rows.valueReadsSpec.vars false #[.string ⟨#[]⟩].toList 8 = some ([.lit (.string [])], [], places) :=
  ⟨[], by kernel_rfl⟩

theorem lifted (os : Os) (started : os.Started) (H : Type) (enc : TypeId × Value → H) (F : Stop.Interp) :
    ReturnsInHanded {} Tryd.checked os 4 .any ((OpenSpec.ofChange Rows.valueReadsSpec).preRow enc Tryd.prog Tryd.f4 Rows.valueReadsRow.domain false Rows.valueReadsRow.laid) (((OpenSpec.ofChange Rows.valueReadsSpec).at F).post enc Tryd.prog Tryd.f4 false true false false) := by
  obtain ⟨places, hx⟩ := reads os enc
  refine returnsInHanded_of_row (C := Tryd.checked) (s := OpenSpec.ofChange Rows.valueReadsSpec) Tryd.own_ started (by kernel_rfl) Tryd.func4
    (witness_row_atRef (enc := enc) (C := Tryd.checked) false (laidWorld os) #[.string ⟨#[]⟩] rfl (laid_vars os _) (laid_begin os _) (by kernel_rfl)
      (OpenSpec.preRow_of_cond 8 hx (by kernel_rfl) (fun k hk => by cases hk) (by kernel_rfl) (laid_met os _))) ?_
  intro W base args ds gs before hval hW _ _ _ hL hS _
  exact contract H enc W base args ds gs before hval hW hL hS

theorem said : Rows.ValueReadsSaid :=
  OpenClaim.holds_of_cond 4 Tryd.f4 rfl rfl rfl rfl rfl rfl rfl ⟨rfl, rfl, rfl, rfl, rfl⟩ rfl rfl rfl rfl rfl (by kernel_rfl) Tryd.func4 (by kernel_rfl)
    (of_decide_eq_true (by kernel_rfl)) (by unfold Func.isWrapper; first | (rw [if_pos (by decide +kernel)]; kernel_rfl) | (rw [if_neg (by decide +kernel)]; exact ⟨rfl, rfl⟩))
    (fun os started H enc _ F => by rw [OpenClaim.pre_eq_preRow]; exact lifted os started H enc F)

theorem plain (f : FuncId) (fn : Func) (hf : Tryd.pinned.checked.prog.funcNamed "homestead/homesteadlaw02.ValueReads" = some f) (hfn : Tryd.pinned.checked.prog.funcs[f]? = some fn) :
    true = Tryd.pinned.checked.prog.looks [] ∧ ∀ (j : Nat) t, fn.params[j]? = some t → Tryd.pinned.checked.prog.wantsStandIn t = false := by
  obtain rfl : f = 4 := Option.some.inj ((show Tryd.prog.funcNamed "homestead/homesteadlaw02.ValueReads" = some 4 by kernel_rfl).symm.trans hf) |>.symm
  obtain rfl : fn = Tryd.f4 := (Option.some.inj (Tryd.func4.symm.trans hfn)).symm
  refine ⟨by kernel_rfl, fun j t ht => ?_⟩
  rw [Tryd.params4] at ht
  have hm : t ∈ [9] := by simpa using Array.mem_of_getElem? ht
  have hall : [9].all (fun t => !Tryd.prog.wantsStandIn t) = true := by kernel_rfl
  exact (show Tryd.prog.wantsStandIn t = false from by simpa using List.all_eq_true.1 hall t hm)

theorem card : Rows.ValueReadsCardSaid :=
  Claim7.holds_tied_plain_at .later [] _ _ _ _ said (fun _ h => by cases h) (by kernel_rfl) (fun _ h => by cases h) valueReads_row_tie rfl ⟨rfl, rfl⟩ (by kernel_rfl) rfl plain (by kernel_rfl)
end Go.Proofs.YtkicjhphiibifaaDoor.valueReads
