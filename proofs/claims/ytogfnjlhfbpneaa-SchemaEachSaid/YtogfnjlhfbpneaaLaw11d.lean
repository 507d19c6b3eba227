/- Whatever schema comes in: SchemaEach answers true: of one that is right each table is found by its name, and each column by its, each foreign key by its column; the key is none of them. No condition. -/
import Derived.Test.YtogfnjlhfbpneaaRows
import Derived.Test.YtogfnjlhfbpneaaLaw
import Derived.Test.YtogfnjlhfbpneaaSchAlive
import Derived.Test.YtogfnjlhfbpneaaSchOpen
import Derived.Test.YtogfnjlhfbpneaaSchLaw
namespace Go.Proofs.Ytogfnjlhfbpneaa.schemaEach
open Go.ChangeShapes Go.WideShapes Go.ChangeAt Go.RowKit Go.ChangeMaps

set_option maxRecDepth 100000 in
set_option maxHeartbeats 12800000 in
theorem walk (A : Option Addr) (n c : Nat) (l : List T6) (w : World) (h : RdS w A n c l) (hsm : ∀ t ∈ l, t.Small) : Calls Try.prog 6 #[.agg #[.slice A n c]] w fun e w' => e = .returned (.bool true) ∧ Below w.heap.size w w' := by
  have HB0 := Lib.hid (Below.refl w.heap.size w)
  obtain ⟨w1, hw1⟩ : ∃ w1, w1 = w.alloc (schBox A n c) := ⟨_, rfl⟩
  have HW1 := Lib.hid hw1
  have HB1 : Hid (Below w.heap.size w w1) := by rw [hw1]; exact below_new (Below.refl _ _) _
  have R1 : Hid (w1.heap[w.heap.size]? = some (schBox A n c)) := by rw [hw1]; exact heap_alloc_new _ _
  have HS1 := Lib.hid (h.below HB1.out)
  obtain ⟨f, hf⟩ : ∃ f, Hid (fewB l = f) := ⟨_, rfl⟩
  have CF : Hid (∀ W, RdS W A n c l → Calls Try.prog 13 #[.agg #[.slice A n c]] W fun e w' => e = .returned (.bool f) ∧ Below W.heap.size W w') := fun W hW => by rw [← hf.out]; exact refFew_any A n c l W hW hsm
  have hle := h.le
  have HL := Lib.hid h.len
  clear hw1 h hsm
  have s0 := sch_row R1.out
  go_enter Try.func6, Try.ntmps6
  go_upto_region 1 with fail
  rw [show w.alloc (schBox A n c) = w1 from HW1.out.symm]
  clear HW1
  go_wp2_with fail
  refine (CF.out _ HS1.out).mono ?_
  rintro e w2 ⟨rfl, b2⟩
  have HB2 := Lib.hid (below_then HB1.out b2)
  have R2 := Lib.hid (row_below R1.out b2)
  have HS2 := Lib.hid (HS1.out.below b2)
  clear b2 CF HB1 R1 HS1 s0 HB0
  have s0 := sch_row R2.out
  cases f with
  | false =>
    go_wp2_with fail
    refine (alive11_any _).mono ?_
    rintro e wz ⟨rfl, bz⟩
    have HZ := Lib.hid (below_then HB2.out bz)
    clear bz
    go_wp2_with fail
    go_ret
    exact ⟨rfl, HZ.out⟩
  | true =>
    obtain ⟨E, hE⟩ : ∃ E, Hid (rightE l = E) := ⟨_, rfl⟩
    have CR := Lib.hid (right11_is A n c l E w2 HS2.out hE.out)
    go_wp2_with fail
    refine CR.out.mono ?_
    rintro e w3 ⟨rfl, b3⟩
    have HB3 := Lib.hid (below_then HB2.out b3)
    have R3 := Lib.hid (row_below R2.out b3)
    have HS3 := Lib.hid (HS2.out.below b3)
    clear b3 CR HB2 R2 HS2 s0
    have s0 := sch_row R3.out
    by_cases hE0 : E = 0
    rotate_left
    · have q0 := beq_no hE0
      have q1 : (E != 0) = true := by simp [bne, q0]
      clear hE0
      go_wp2_with fail
      refine (alive11_any _).mono ?_
      rintro e wz ⟨rfl, bz⟩
      have HZ := Lib.hid (below_then HB3.out bz)
      clear bz
      go_wp2_with fail
      go_ret
      exact ⟨rfl, HZ.out⟩
    · subst hE0
      have EQF := fun x W => run_eq_fk x W
      go_wp2_with fail
      clear s0
      go_loopw [27] (fun i wr => ∃ k : Nat, k ≤ n ∧ i = .int .i64 k ∧ Hid (Below w3.heap.size w3 wr)) (fun i _ => n - (intOf i).toNat)
      case atStart => exact ⟨0, Nat.zero_le _, rfl, Below.refl _ _⟩
      case round =>
        obtain ⟨k, hk, rfl, KB⟩ := hrel
        by_cases hlt : k < n
        · obtain ⟨b, o, t, hA, hb, hx, hxr, hld⟩ := HS3.out.tab hlt
          obtain ⟨d0, d1, d2, d3, d4, d5⟩ := hld wr KB.out
          rw [hA]
          have HA := Lib.hid hA
          have y1 : (k : Int) < (n : Int) := by omega
          have y0 : (0 : Int) ≤ (k : Int) := by omega
          obtain ⟨w5, hw5⟩ : ∃ w5, w5 = wr.alloc (tabBox t) := ⟨_, rfl⟩
          have HW5 := Lib.hid hw5
          have B5 : Hid (Below w3.heap.size w3 w5) := by rw [hw5]; exact below_new KB.out _
          have R5 : Hid (w5.heap[wr.heap.size]? = some (tabBox t)) := by rw [hw5]; exact heap_alloc_new _ _
          have HR := Lib.hid hxr
          have HT := Lib.hid ((rightE_tab hE.out).2.2 k t hx)
          have T1 : Hid (∀ W, Below w3.heap.size w3 W → Calls Try.prog 16 #[.agg #[.slice (some ⟨b, o, none⟩) n c], .string t.nm] W fun e w' => e = .returned (.tuple #[.int .i64 (k : Int), .bool true]) ∧ Below W.heap.size W w') := fun W hW => by
            have := table_any A n c l t.nm W (HS3.out.below hW)
            rw [right_table hE.out hx, hA] at this
            exact this
          have N1 : Hid (∀ W, Calls Try.prog 11 #[.string t.nm] W fun e w' => e = .returned (.bool true) ∧ Below W.heap.size W w') := fun W => by rw [← (tabErr_name HT.out).1]; exact name_any _ W
          have g1 : ¬ (t.nc : Int) < 1 := by have := (tabErr_size HT.out).1; omega
          have l1 := hxr.cols.le
          have l2 := hxr.fks.le
          clear hb hx hxr hld hw5 KB hA
          go_upto_region 6 with fail
          rw [show wr.alloc (tabBox t) = w5 from HW5.out.symm]
          clear HW5 d0 d1 d2 d3 d4 d5
          generalize wr.heap.size = g5 at R5 ⊢
          obtain ⟨d0, d1, d2, d3, d4, d5⟩ := tab_row R5.out
          have s0 := sch_row (row_below R3.out B5.out)
          rw [HA.out] at s0
          go_wp2_with fail
          refine (T1.out _ B5.out).mono ?_
          rintro e w6 ⟨rfl, b6⟩
          have B6 := Lib.hid (below_then B5.out b6)
          have R6 := Lib.hid (row_below R5.out b6)
          clear b6 d0 d1 d2 d3 d4 d5 T1 s0 B5 R5
          obtain ⟨d0, d1, d2, d3, d4, d5⟩ := tab_row R6.out
          go_wp2_with fail
          refine (N1.out _).mono ?_
          rintro e w7 ⟨rfl, b7⟩
          have B7 := Lib.hid (below_then B6.out b7)
          have R7 := Lib.hid (row_below R6.out b7)
          clear b7 d0 d1 d2 d3 d4 d5 N1 B6 R6
          obtain ⟨d0, d1, d2, d3, d4, d5⟩ := tab_row R7.out
          go_wp2_with fail
          clear d0 d1 d2 d3 d4 d5
          go_loopw [61] (fun i wr => ∃ j : Nat, j ≤ t.nc ∧ i = .int .i64 j ∧ Hid (Below w7.heap.size w7 wr)) (fun i _ => t.nc - (intOf i).toNat)
          case atStart => exact ⟨0, Nat.zero_le _, rfl, Below.refl _ _⟩
          case round =>
            obtain ⟨j, hj, rfl, JB⟩ := hrel
            have BJ := Lib.hid (below_then B7.out JB.out)
            by_cases hjt : j < t.nc
            · obtain ⟨bc, oc, x, hca, hb, hx, hld⟩ := HR.out.cols.col hjt
              obtain ⟨e0, e1, e2, e3⟩ := hld wr BJ.out
              rw [hca]
              have HCA := Lib.hid hca
              have y3 : (j : Int) < (t.nc : Int) := by omega
              have y2 : (0 : Int) ≤ (j : Int) := by omega
              obtain ⟨w8, hw8⟩ : ∃ w8, w8 = wr.alloc (colBox x) := ⟨_, rfl⟩
              have HW8 := Lib.hid hw8
              have J8 : Hid (Below w7.heap.size w7 w8) := by rw [hw8]; exact below_new JB.out _
              have X8 : Hid (w8.heap[wr.heap.size]? = some (colBox x)) := by rw [hw8]; exact heap_alloc_new _ _
              have C1 : Hid (Calls Try.prog 18 #[.agg #[.string t.nm, .slice (some ⟨bc, oc, none⟩) t.nc t.cc, .slice t.ua t.nu t.uc, .slice t.ha t.nh t.hc, .slice t.fa t.nf t.fc, .slice t.sa t.ns t.sc], .string x.nm] w8 fun e w' => e = .returned (.tuple #[.int .i64 (j : Int), .bool true]) ∧ Below w8.heap.size w8 w') := by
                have := column_any t x.nm w8 (HR.out.cols.below (below_then B7.out J8.out))
                rw [right_column HT.out HR.out.cols.len hx] at this
                rw [← hca]
                exact this
              clear hb hx hld hw8 JB BJ hca
              go_upto_region 12 with fail
              rw [show wr.alloc (colBox x) = w8 from HW8.out.symm]
              clear HW8 e0 e1 e2 e3
              generalize wr.heap.size = g8 at X8 ⊢
              obtain ⟨f0, f1, f2, f3⟩ := col_row X8.out
              obtain ⟨d0, d1, d2, d3, d4, d5⟩ := tab_row (row_below R7.out J8.out)
              rw [HCA.out] at d1
              go_wp2_with fail
              refine C1.out.mono ?_
              rintro e w9 ⟨rfl, b9⟩
              have J9 := Lib.hid (below_then J8.out b9)
              clear b9 C1 d0 d1 d2 d3 d4 d5 f0 f1 f2 f3
              go_wp2_with fail
              exact ⟨⟨j + 1, by omega, by go_num, J9⟩, by simp [intOf]; omega⟩
            · obtain rfl : j = t.nc := by omega
              have y3 : ¬ (t.nc : Int) < (t.nc : Int) := by omega
              obtain ⟨d0, d1, d2, d3, d4, d5⟩ := tab_row (row_below R7.out JB.out)
              go_wp2_with fail
              clear d0 d1 d2 d3 d4 d5
              go_loopw [84] (fun i wr => ∃ j : Nat, j ≤ t.nf ∧ i = .int .i64 j ∧ Hid (Below w7.heap.size w7 wr)) (fun i _ => t.nf - (intOf i).toNat)
              case atStart => exact ⟨0, Nat.zero_le _, rfl, JB⟩
              case round =>
                clear JB BJ
                obtain ⟨j, hj, rfl, JB⟩ := hrel
                have BJ := Lib.hid (below_then B7.out JB.out)
                by_cases hjt : j < t.nf
                · obtain ⟨bf, of, x, hfa, hb, hx, hld⟩ := HR.out.fks.f3 hjt
                  obtain ⟨e0, e1, e2⟩ := hld wr BJ.out
                  rw [hfa]
                  have HFA := Lib.hid hfa
                  have y3 : (j : Int) < (t.nf : Int) := by omega
                  have y2 : (0 : Int) ≤ (j : Int) := by omega
                  obtain ⟨w8, hw8⟩ : ∃ w8, w8 = wr.alloc (fkBox x) := ⟨_, rfl⟩
                  have HW8 := Lib.hid hw8
                  have J8 : Hid (Below w7.heap.size w7 w8) := by rw [hw8]; exact below_new JB.out _
                  have X8 : Hid (w8.heap[wr.heap.size]? = some (fkBox x)) := by rw [hw8]; exact heap_alloc_new _ _
                  have F1 : Hid (Calls Try.prog 20 #[.agg #[.string t.nm, .slice t.ca t.nc t.cc, .slice t.ua t.nu t.uc, .slice t.ha t.nh t.hc, .slice (some ⟨bf, of, none⟩) t.nf t.fc, .slice t.sa t.ns t.sc], .int .i64 x.a] w8 fun e w' => e = .returned (.tuple #[.agg #[.int .i64 x.a, .int .i64 x.b, .int .i64 x.c], .bool true]) ∧ Below w8.heap.size w8 w') := by
                    have := foreign_any t x.a w8 (HR.out.fks.below (below_then B7.out J8.out))
                    rw [right_foreign HT.out HR.out.fks.len hx, f3At_hit hx] at this
                    rw [← hfa]
                    exact this
                  have HK := Lib.hid (right_fk HT.out HR.out.fks.len hx)
                  have HLS := Lib.hid hld
                  clear hb hx hld hw8 JB BJ hfa
                  go_upto_region 19 with fail
                  rw [show wr.alloc (fkBox x) = w8 from HW8.out.symm]
                  clear HW8 e0 e1 e2
                  generalize wr.heap.size = g8 at X8 ⊢
                  obtain ⟨f0, f1, f2⟩ := f3_row X8.out
                  obtain ⟨d0, d1, d2, d3, d4, d5⟩ := tab_row (row_below R7.out J8.out)
                  rw [HFA.out] at d4
                  go_wp2_with fail
                  refine F1.out.mono ?_
                  rintro e w9 ⟨rfl, b9⟩
                  have J9 := Lib.hid (below_then J8.out b9)
                  have X9 := Lib.hid (row_below X8.out b9)
                  clear b9 F1 d0 d1 d2 d3 d4 d5 f0 f1 f2
                  obtain ⟨w10, hw10⟩ : ∃ w10, w10 = w9.alloc (fkBox x) := ⟨_, rfl⟩
                  have HW10 := Lib.hid hw10
                  have J10 : Hid (Below w7.heap.size w7 w10) := by rw [hw10]; exact below_new J9.out _
                  have X10 : Hid (w10.heap[g8]? = some (fkBox x)) := by rw [hw10]; exact row_below X9.out (below_new (Below.refl _ _) _)
                  have Y10 : Hid (w10.heap[w9.heap.size]? = some (fkBox x)) := by rw [hw10]; exact heap_alloc_new _ _
                  clear hw10
                  go_upto_region 20 with fail
                  rw [show w9.alloc (fkBox x) = w10 from HW10.out.symm]
                  clear HW10 X8 X9 J8 J9
                  generalize w9.heap.size = g10 at Y10 ⊢
                  obtain ⟨f0, f1, f2⟩ := f3_row X10.out
                  obtain ⟨h0, h1, h2⟩ := f3_row Y10.out
                  obtain ⟨d0, d1, d2, d3, d4, d5⟩ := tab_row (row_below R7.out J10.out)
                  rw [HFA.out] at d4
                  have s0 := sch_row (row_below R3.out (below_then B7.out J10.out))
                  have v1 : decide (x.a < 1) = false := decide_eq_false (by have := HK.out.1; omega)
                  have v2 : decide (x.b < 0) = false := decide_eq_false (by have := HK.out.2.1; omega)
                  have v3 : decide ((n : Int) ≤ x.b) = false := decide_eq_false (by have := HK.out.2.2.1; have := HL.out; omega)
                  have v11 : ¬ x.a < 1 := by have := HK.out.1; omega
                  have v12 : ¬ x.b < 0 := by have := HK.out.2.1; omega
                  have v13 : ¬ (n : Int) ≤ x.b := by have := HK.out.2.2.1; have := HL.out; omega
                  by_cases hj0 : 0 < j
                  · obtain ⟨bf', of', y, hfa', _, hy, hld'⟩ := HR.out.fks.f3 (show j - 1 < t.nf by omega)
                    have ea := HFA.out.symm.trans hfa'
                    cases ea
                    obtain ⟨i0, i1, i2⟩ := hld' w10 (below_then B7.out J10.out)
                    have y4 : (0 : Int) < (j : Int) := by omega
                    have y5 : IntKind.i64.wrap ((j : Int) - 1) = (j : Int) - 1 := wrap_is (by omega)
                    have y6 : ((j : Int) - 1).toNat = j - 1 := by omega
                    have y7 : (0 : Int) ≤ (j : Int) - 1 := by omega
                    have y8 : (j : Int) - 1 < (t.nf : Int) := by omega
                    have y9 : (1 : Int) ≤ (j : Int) := by omega
                    have y10 : decide ((0 : Int) < (j : Int)) = true := decide_eq_true y4
                    have y11 : decide (0 < j) = true := decide_eq_true hj0
                    have y12 : 1 ≤ j := hj0
                    have v4 : decide (x.a ≤ y.a) = false := decide_eq_false (by have := HK.out.2.2.2 hj0 y hy; omega)
                    have v14 : ¬ x.a ≤ y.a := by have := HK.out.2.2.2 hj0 y hy; omega
                    clear hfa' hy hld'
                    go_wp2_with fail
                    refine wp_region_quiet_lit (by kernel_rfl) (by kernel_rfl) ?_
                    repeat (with_reducible refine wpQuiet_step (fun K hK => ?_); go_simp; first | (with_reducible refine hK _ ?_; clear hK K) | (apply Exists.intro; with_reducible refine ⟨fun _ => ?_, hK _ ?_⟩; (fail); clear hK K))
                    with_reducible refine wpQuiet_nil ?_
                    intro _ hw'
                    obtain ⟨nq, hw''⟩ := hw'
                    subst hw''
                    go_wp2_with fail
                    exact ⟨⟨j + 1, by omega, by go_num, below_drewN J10.out nq⟩, by simp [intOf]; omega⟩
                  · obtain rfl : j = 0 := by omega
                    clear y2 y3 hj0
                    go_wp2_with fail
                    refine wp_region_quiet_lit (by kernel_rfl) (by kernel_rfl) ?_
                    repeat (with_reducible refine wpQuiet_step (fun K hK => ?_); go_simp; first | (with_reducible refine hK _ ?_; clear hK K) | (apply Exists.intro; with_reducible refine ⟨fun _ => ?_, hK _ ?_⟩; (fail); clear hK K))
                    with_reducible refine wpQuiet_nil ?_
                    intro _ hw'
                    obtain ⟨nq, hw''⟩ := hw'
                    subst hw''
                    go_wp2_with fail
                    exact ⟨⟨0 + 1, by omega, by go_num, below_drewN J10.out nq⟩, by simp [intOf]; omega⟩
                · obtain rfl : j = t.nf := by omega
                  have y3 : ¬ (t.nf : Int) < (t.nf : Int) := by omega
                  go_wp2_with fail
                  exact ⟨⟨k + 1, by omega, by go_num, BJ⟩, by simp [intOf]; omega⟩
        · obtain rfl : k = n := by omega
          have y1 : ¬ (k : Int) < (k : Int) := by omega
          have HBf := Lib.hid (below_then HB3.out KB.out)
          go_wp2_with fail
          refine (alive11_any _).mono ?_
          rintro e wz ⟨rfl, bz⟩
          have HZ := Lib.hid (below_then HBf.out bz)
          clear bz
          go_wp2_with fail
          go_ret
          exact ⟨rfl, HZ.out⟩

set_option maxRecDepth 100000 in
theorem contract (H : Type) (enc : TypeId × Value → H) (W : World) (base : Nat) (args : Array Value) (ds gs : List (DataW H)) (before : List MemPlace)
    (hval : ∀ (j : Nat) t v, Try.f6.params[j]? = some t → args[j]? = some v → Value.okWide Try.prog W .any base t v)
    (hW : DataW.Whole enc Try.prog Try.f6.params.toList Rows.schemaEachSpec.vars false W args.toList ds gs before)
    (hsz : (DataW.weightsEach Try.prog (Try.f6.params.toList ++ Rows.schemaEachSpec.plain.varTypes Try.prog) (ds ++ gs)).all (· ≤ reachBytes) = true) :
    Calls Try.prog 6 args W fun e W' => ∃ v, e = .returned v ∧ Rows.schemaEachSpec.post enc Try.prog Try.f6 false true false false W args v W' := by
  have hlt : ∀ x ∈ before, x.block < W.heap.size := fun x hx => by simpa using hW.lt x hx
  refine law_step 4 Try.laid_ (by kernel_rfl) rfl Try.underlying4 rfl hW (fun xs hx => ?_) ?_
  · match xs, hx with
    | [d0], _ => rfl
  · obtain ⟨p, q, hA0, hV, rfl, _, _⟩ := hW
    have hA : DataW.TrodAll enc Try.prog W 0 (fun _ => true) true Try.f6.params.toList args.toList ds p := hA0
    rw [Try.params6] at hA hval hsz
    obtain ⟨v0, vs0, d0, ds0, p0, q0, e0, rfl, rfl, h0, r0⟩ := trodAll_cons hA
    obtain ⟨rfl, rfl, rfl⟩ := trodAll_nil r0
    obtain rfl : args = #[v0] := by cases args; simp_all
    clear e0 hA0
    have hw0 : ∀ x ∈ d0.weights Try.prog 26, x ≤ reachBytes := fun x hx => by simpa using List.all_eq_true.1 hsz _ (DataW.weights_mem_each (j := 0) rfl rfl x hx)
    obtain ⟨A0, n0, c0, l0, rfl, rd0, sm0⟩ := open_schema (hval 0 26 v0 rfl rfl) h0 hw0
    exact walk A0 n0 c0 l0 W rd0 sm0

set_option maxRecDepth 100000 in
theorem lifted (os : Os) (started : os.Started) (H : Type) (enc : TypeId × Value → H) :
    ReturnsInHanded {} Try.checked os 6 .any (Rows.schemaEachSpec.pre6 enc Try.prog Try.f6 Rows.schemaEachRow.domain false) (Rows.schemaEachSpec.post enc Try.prog Try.f6 false true false false) := by
  refine returnsInHanded_of_change_sized (C := Try.checked) Try.own_ started (by kernel_rfl) Try.func6
    (ChangeSpec.witness6 (enc := enc) (C := Try.checked) false ⟨#[], #[.agg #[.slice none 0 0]], []⟩ 8 (by kernel_rfl) (by kernel_rfl) (by kernel_rfl) (by kernel_rfl)) ?_
  intro W base args ds gs before hval hW _ hsz _
  exact contract H enc W base args ds gs before hval hW hsz

theorem holds : Rows.SchemaEachSaid :=
  OpenClaim.holds_of_wide 6 Try.f6 rfl rfl rfl rfl rfl rfl rfl ⟨rfl, rfl, rfl, rfl, rfl⟩ rfl rfl rfl rfl rfl (by kernel_rfl) Try.func6 (by kernel_rfl)
    (of_decide_eq_true (by kernel_rfl)) (by unfold Func.isWrapper; first | (rw [if_pos (by decide +kernel)]; kernel_rfl) | (rw [if_neg (by decide +kernel)]; exact ⟨rfl, rfl⟩))
    (fun os started H enc _ => lifted os started H enc)
end Go.Proofs.Ytogfnjlhfbpneaa.schemaEach
