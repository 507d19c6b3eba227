/- Whatever columns and row come in: RowRight answers true: which rows may stand in which columns, and of which kind a column's values are, is what the document says. No condition. -/
import Derived.Test.YtijhcoidhlmecaaRows
import Derived.Test.YtijhcoidhlmecaaLaw
import Derived.Test.YtijhcoidhlmecaaLaw
import Derived.Test.YtijhcoidhlmecaaRowLaw
import Derived.Deep.RegionHeld3
namespace Go.Proofs.Ytijhcoidhlmecaa.rowRight
open Go.ChangeShapes Go.WideShapes Go.ChangeAt Go.RowKit Go.ChangeMaps

set_option maxHeartbeats 6400000 in
theorem walk (A B : Option Addr) (n c m d : Nat) (cs : List C4) (r : List V3) (w : World) (hc : RdC w A n c cs) (hv : RdV w B m d r) :
    Calls Try.prog 3 #[.slice A n c, .slice B m d] w fun e w' => e = .returned (.bool true) ∧ Below w.heap.size w w' := by
  have hle := hc.le
  have FE := Lib.hid (few1 w.heap.size rfl hv)
  have HC := Lib.hid hc; have HV := Lib.hid hv
  clear hc hv
  have SZ := @few_sizes [⟨B, m, d, r⟩]
  generalize fewZ [⟨B, m, d, r⟩] = f at FE SZ
  by_cases hn : n ≤ 100
  rotate_left
  · have hni : (100 : Int) < n := by omega
    clear FE SZ
    go_enter Try.func3, Try.ntmps3
    go_wp2_with fail
    refine (alive_any _).mono ?_
    rintro e w1 ⟨rfl, b1⟩
    have B1 := below_then (Below.refl w.heap.size w) b1
    go_wp2
    go_ret
    exact ⟨rfl, B1⟩
  have hni : ¬ (100 : Int) < n := by omega
  cases f with
  | false =>
    clear SZ
    go_enter Try.func3, Try.ntmps3
    have BA0 := below_new (Below.refl w.heap.size w) (.cells #[.slice B m d] 24)
    go_wp2_with fail
    refine (FE.out).mono ?_
    rintro e w1 ⟨rfl, b1⟩
    have B1 := below_then (BA0) b1
    go_wp2_with fail
    refine (alive_any _).mono ?_
    rintro e w2 ⟨rfl, b2⟩
    have B2 := below_then (B1) b2
    go_wp2
    go_ret
    exact ⟨rfl, B2⟩
  | true =>
    have SZ := SZ rfl
    have hs : ∀ v ∈ r, v.s.size ≤ 4294967296 := fun v hv => Nat.le_trans ((SZ ⟨B, m, d, r⟩ (by simp)).2 v hv) (by decide)
    obtain ⟨er, P1, P2⟩ : ∃ er : Int, Hid (∀ W, Below w.heap.size w W → Calls Try.prog 14 #[.slice A n c, .slice B m d] W fun e W' => e = .returned (.int .i64 er) ∧ Below W.heap.size W W') ∧
        Hid (∀ W, Below w.heap.size w W → Calls Try.prog 15 #[.slice A n c, .slice B m d] W fun e W' => e = .returned (.int .i64 er) ∧ Below W.heap.size W W') :=
      ⟨_, Lib.hid fun W hW => rowRight_any _ _ _ _ _ _ _ _ W (HC.out.below hW) (HV.out.below hW) hs, Lib.hid fun W hW => refRowRight_any _ _ _ _ _ _ _ _ W (HC.out.below hW) (HV.out.below hW) hs⟩
    clear SZ hs
    go_enter Try.func3, Try.ntmps3
    have BA0 := below_new (Below.refl w.heap.size w) (.cells #[.slice B m d] 24)
    go_wp2_with fail
    refine (FE.out).mono ?_
    rintro e w1 ⟨rfl, b1⟩
    have B1 := below_then (BA0) b1
    go_wp2_with fail
    go_loopw [19] (fun i wr => ∃ k : Nat, k ≤ n ∧ i = .int .i64 k ∧ Below w.heap.size w wr) (fun i _ => n - (intOf i).toNat)
    case atStart => exact ⟨0, Nat.zero_le _, rfl, B1⟩
    case round =>
      obtain ⟨k, hk, rfl, hbel⟩ := hrel
      by_cases hlt : k < n
      · obtain ⟨b, o, x, rfl, hb, hx, hld⟩ := HC.out.col hlt
        obtain ⟨c0, c1, c2, c3⟩ := hld _ hbel
        obtain ⟨kd, K1, K2⟩ : ∃ kd : Int, Hid (∀ W, Calls Try.prog 12 #[x.agg] W fun e W' => e = .returned (.int .i64 kd) ∧ Below W.heap.size W W') ∧ Hid (∀ W, Calls Try.prog 13 #[x.agg] W fun e W' => e = .returned (.int .i64 kd) ∧ Below W.heap.size W W') :=
          ⟨_, Lib.hid fun W => kind_any x W, Lib.hid fun W => refKind_any x W⟩
        have BA := below_new hbel (.cells #[.string x.nm, .int .i64 x.k, .int .i64 x.t, .bool x.z] 28)
        have hr := heap_alloc_new wr (.cells #[.string x.nm, .int .i64 x.k, .int .i64 x.t, .bool x.z] 28)
        have d0 := cell_row hr 0; have d1 := cell_row hr 1; have d2 := cell_row hr 2; have d3 := cell_row hr 3
        simp only [List.getElem?_toArray, List.getElem?_cons_zero, List.getElem?_cons_succ] at d0 d1 d2 d3
        have BD := BA.drew
        clear hld hx hr
        go_wp2_with fail
        go_region_held3 (fun W => Below w.heap.size w W ∧ W.cell? ⟨wr.heap.size, 0, none⟩ = some (.string x.nm) ∧ W.cell? ⟨wr.heap.size, 1, none⟩ = some (.int .i64 x.k) ∧ W.cell? ⟨wr.heap.size, 2, none⟩ = some (.int .i64 x.t) ∧ W.cell? ⟨wr.heap.size, 3, none⟩ = some (.bool x.z))
          (first
            | (go_split_ands
               refine ⟨?_, ?_, ?_, ?_, ?_⟩
               · exact below_then (by assumption) bb
               all_goals exact (bb.cell (World.block_lt_of_cell? _ _ (by assumption))).trans (by assumption))
            | (go_split_ands
               refine ⟨?_, ?_, ?_, ?_, ?_⟩
               · exact Below.drew (by assumption)
               all_goals (show World.cell? _ _ = _; assumption))
            | (go_split_ands
               refine ⟨?_, ?_, ?_, ?_, ?_⟩
               all_goals assumption)
            | go_keep)
          (first
            | (go_at_call 12; refine (K1.out _).mono ?_; rintro e wx ⟨rfl, bb⟩)
            | (go_at_call 13; refine (K2.out _).mono ?_; rintro e wx ⟨rfl, bb⟩))
        all_goals
          have hf := by assumption
          go_split_ands
          go_wp2
          exact ⟨⟨k + 1, by omega, by go_num, by assumption⟩, by simp [intOf]; omega⟩
      · clear BA0 B1
        go_wp2_with fail
        refine (alive_any _).mono ?_
        rintro e w6 ⟨rfl, b6⟩
        have B6 := below_then (hbel) b6
        go_wp2_with fail
        refine (P1.out _ (B6)).mono ?_
        rintro e w7 ⟨rfl, b7⟩
        have B7 := below_then (B6) b7
        go_wp2_with fail
        refine (P2.out _ (B7)).mono ?_
        rintro e w8 ⟨rfl, b8⟩
        have B8 := below_then (B7) b8
        go_wp2
        go_ret
        exact ⟨rfl, B8⟩

theorem contract (H : Type) (enc : TypeId × Value → H) (W : World) (base : Nat) (args : Array Value) (ds gs : List (DataW H)) (before : List MemPlace)
    (hval : ∀ (j : Nat) t v, Try.f3.params[j]? = some t → args[j]? = some v → Value.okWide Try.prog W .any base t v)
    (hW : DataW.Whole enc Try.prog Try.f3.params.toList Rows.rowRightSpec.vars false W args.toList ds gs before) :
    Calls Try.prog 3 args W fun e W' => ∃ v, e = .returned v ∧ Rows.rowRightSpec.post enc Try.prog Try.f3 false true false false W args v W' := by
  have hlt : ∀ x ∈ before, x.block < W.heap.size := fun x hx => by simpa using hW.lt x hx
  refine law_step 4 Try.laid_ (by kernel_rfl) rfl Try.underlying4 rfl hW (fun xs hx => ?_) ?_
  · match xs, hx with
    | [d0, d1], _ => rfl
  · obtain ⟨p, q, hA0, hV, rfl, _, _⟩ := hW
    have hA : DataW.TrodAll enc Try.prog W 0 (fun _ => true) true Try.f3.params.toList args.toList ds p := hA0
    rw [Try.params3] at hA hval
    obtain ⟨v0, vs0, d0, ds0, p0, q0, e0, rfl, rfl, h0, r0⟩ := trodAll_cons hA
    obtain ⟨v1, vs1, d1, ds1, p1, q1, e1, rfl, rfl, h1, r1⟩ := trodAll_cons r0
    obtain ⟨rfl, rfl, rfl⟩ := trodAll_nil r1
    subst e1
    obtain rfl : args = #[v0, v1] := by cases args; simp_all
    clear e0 hA0
    obtain ⟨A0, n0, c0, cs, rfl, rd0⟩ := open_cols (hval 0 22 v0 rfl rfl) h0
    obtain ⟨A1, n1, c1, r, rfl, rd1, wf1⟩ := open_row (hval 1 24 v1 rfl rfl) h1
    exact walk A0 A1 n0 c0 n1 c1 cs r W rd0 rd1

set_option maxRecDepth 100000 in
theorem lifted (os : Os) (started : os.Started) (H : Type) (enc : TypeId × Value → H) :
    ReturnsInHanded {} Try.checked os 3 .any (Rows.rowRightSpec.pre6 enc Try.prog Try.f3 Rows.rowRightRow.domain false) (Rows.rowRightSpec.post enc Try.prog Try.f3 false true false false) := by
  refine returnsInHanded_of_change (C := Try.checked) Try.own_ started (by kernel_rfl) Try.func3
    (ChangeSpec.witness6 (enc := enc) (C := Try.checked) false ⟨#[], #[.slice none 0 0, .slice none 0 0], []⟩ 8 (by kernel_rfl) (by kernel_rfl) (by kernel_rfl) (by kernel_rfl)) ?_
  intro W base args ds gs before hval hW _ _
  exact contract H enc W base args ds gs before hval hW

theorem holds : Rows.RowRightSaid :=
  OpenClaim.holds_of_wide 3 Try.f3 rfl rfl rfl rfl rfl rfl rfl ⟨rfl, rfl, rfl, rfl, rfl⟩ rfl rfl rfl rfl rfl (by kernel_rfl) Try.func3 (by kernel_rfl)
    (of_decide_eq_true (by kernel_rfl)) (by unfold Func.isWrapper; first | (rw [if_pos (by decide +kernel)]; kernel_rfl) | (rw [if_neg (by decide +kernel)]; exact ⟨rfl, rfl⟩))
    (fun os started H enc _ => lifted os started H enc)
end Go.Proofs.Ytijhcoidhlmecaa.rowRight
