/- Whatever schema, text and numbers come in: SchemaFinds answers true: where any table is, and any column, and which foreign keys there are, is what the document says. No condition. -/
import Derived.Test.YtogfnjlhfbpneaaRows
import Derived.Test.YtogfnjlhfbpneaaLaw
import Derived.Test.YtogfnjlhfbpneaaSchAlive
import Derived.Test.YtogfnjlhfbpneaaSchOpen
import Derived.Test.YtogfnjlhfbpneaaSchEq
import Derived.Test.YtogfnjlhfbpneaaSchArr
namespace Go.Proofs.Ytogfnjlhfbpneaa.schemaFinds
open Go.ChangeShapes Go.WideShapes Go.ChangeAt Go.RowKit Go.ChangeMaps

set_option maxRecDepth 100000 in
set_option maxHeartbeats 12800000 in
theorem walk (A : Option Addr) (n c : Nat) (l : List T6) (s : ByteArray) (zx zy : Int) (w : World) (h : RdS w A n c l) (hsm : ∀ t ∈ l, t.Small) : Calls Try.prog 5 #[.agg #[.slice A n c], .string s, .agg #[.int .i64 zx, .int .i64 zy]] w fun e w' => e = .returned (.bool true) ∧ Below w.heap.size w w' := by
  have HB0 := Lib.hid (Below.refl w.heap.size w)
  obtain ⟨w1, hw1⟩ : ∃ w1, w1 = (w.alloc (schBox A n c)).alloc (pairBox (zx, zy)) := ⟨_, rfl⟩
  have HW1 := Lib.hid hw1
  have HB1 : Hid (Below w.heap.size w w1) := by rw [hw1]; exact below_new (below_new (Below.refl _ _) _) _
  have R1 : Hid (w1.heap[w.heap.size]? = some (schBox A n c)) := by rw [hw1, Below.heap_alloc _ _ _ (by simp)]; exact heap_alloc_new _ _
  have Z1 : Hid (w1.heap[w.heap.size + 1]? = some (pairBox (zx, zy))) := by
    show _ = _
    rw [hw1]
    have := heap_alloc_new (w.alloc (schBox A n c)) (pairBox (zx, zy))
    rwa [World.size_alloc] at this
  have HS1 := Lib.hid (h.below HB1.out)
  obtain ⟨f, hf⟩ : ∃ f, Hid (fewB l = f) := ⟨_, rfl⟩
  have CF : Hid (∀ W, RdS W A n c l → Calls Try.prog 13 #[.agg #[.slice A n c]] W fun e w' => e = .returned (.bool f) ∧ Below W.heap.size W w') := fun W hW => by rw [← hf.out]; exact refFew_any A n c l W hW hsm
  have hle := h.le
  have HL := Lib.hid h.len
  clear hw1 h hsm
  have s0 := sch_row R1.out
  go_enter Try.func5, Try.ntmps5
  go_upto_region 1 with fail
  rw [show (w.alloc (schBox A n c)).alloc (pairBox (zx, zy)) = w1 from HW1.out.symm]
  clear HW1
  go_wp2_with fail
  refine (CF.out _ HS1.out).mono ?_
  rintro e w2 ⟨rfl, b2⟩
  have HB2 := Lib.hid (below_then HB1.out b2)
  have R2 := Lib.hid (row_below R1.out b2)
  have Z2 := Lib.hid (row_below Z1.out b2)
  have HS2 := Lib.hid (HS1.out.below b2)
  clear b2 CF HB1 R1 HS1 Z1 s0 HB0
  have s0 := sch_row R2.out
  cases f with
  | false =>
    go_wp2_with fail
    refine (alive11_any _).mono ?_
    rintro e wz ⟨rfl, bz⟩
    have HZ := Lib.hid (below_then HB2.out bz)
    clear bz
    go_wp2_with fail
    go_ret
    exact ⟨rfl, HZ.out⟩
  | true =>
    obtain ⟨z0, q0, hz0⟩ : ∃ z0 q0, Hid (at0 (tableP l s) = z0 ∧ (tableP l s).isSome = q0) := ⟨_, _, rfl, rfl⟩
    have T1 : Hid (∀ W, Below w2.heap.size w2 W → Calls Try.prog 16 #[.agg #[.slice A n c], .string s] W fun e w' => e = .returned (.tuple #[.int .i64 z0, .bool q0]) ∧ Below W.heap.size W w') := fun W hW => by rw [← hz0.out.1, ← hz0.out.2]; exact table_any A n c l s W (HS2.out.below hW)
    have T2 : Hid (∀ W, Below w2.heap.size w2 W → Calls Try.prog 17 #[.agg #[.slice A n c], .string s] W fun e w' => e = .returned (.tuple #[.int .i64 z0, .bool q0]) ∧ Below W.heap.size W w') := fun W hW => by rw [← hz0.out.1, ← hz0.out.2]; exact refTable_any A n c l s W (HS2.out.below hW)
    obtain ⟨K, hK⟩ : ∃ K, Hid (kidsL l zy = K) := ⟨_, rfl⟩
    obtain ⟨m, hm⟩ : ∃ m, Hid (K.length = m) := ⟨_, rfl⟩
    have hfew := kidsL_few HS2.out hf.out zy
    have HM : Hid (m < 4294967296) := by show _ < _; rw [← hm.out, ← hK.out]; exact hfew
    have K1 : Hid (∀ W, Below w2.heap.size w2 W → Calls Try.prog 22 #[.agg #[.slice A n c], .int .i64 zy] W fun e w' => ∃ A' c', e = .returned (.slice A' m c') ∧ RdK w' A' m c' K ∧ Below W.heap.size W w') := fun W hW => by
      refine (kids_any A n c l zy W (HS2.out.below hW) hfew).mono ?_
      rintro e w' ⟨A', m', c', rfl, h1, h2⟩
      rw [hK.out] at h1
      obtain rfl : m = m' := by rw [← hm.out]; exact h1.len
      exact ⟨A', c', rfl, h1, h2⟩
    have K2 : Hid (∀ W, Below w2.heap.size w2 W → Calls Try.prog 23 #[.agg #[.slice A n c], .int .i64 zy] W fun e w' => ∃ A' c', e = .returned (.slice A' m c') ∧ RdK w' A' m c' K ∧ Below W.heap.size W w') := fun W hW => by
      refine (refKids_any A n c l zy W (HS2.out.below hW) hfew).mono ?_
      rintro e w' ⟨A', m', c', rfl, h1, h2⟩
      rw [hK.out] at h1
      obtain rfl : m = m' := by rw [← hm.out]; exact h1.len
      exact ⟨A', c', rfl, h1, h2⟩
    have EQF := fun x W => run_eq_fk x W
    have EQP := fun x y W => run_eq_pair x y W
    have B22 := Lib.hid (Below.refl w2.heap.size w2)
    clear hz0 hfew hf
    go_wp2_with fail
    refine (T1.out _ B22.out).mono ?_
    rintro e w3 ⟨rfl, b3⟩
    have B23 := Lib.hid b3
    clear b3 s0
    have s0 := sch_row (row_below R2.out B23.out)
    go_wp2_with fail
    refine (T2.out _ B23.out).mono ?_
    rintro e w4 ⟨rfl, b4⟩
    have B24 := Lib.hid (below_then B23.out b4)
    clear b4 s0
    have s0 := sch_row (row_below R2.out B24.out)
    go_wp2_with fail
    clear s0
    go_loopw [51] (fun i wr => ∃ k : Nat, k ≤ n ∧ i = .int .i64 k ∧ Hid (Below w2.heap.size w2 wr)) (fun i _ => n - (intOf i).toNat)
    case atStart => exact ⟨0, Nat.zero_le _, rfl, B24⟩
    case round =>
      obtain ⟨k, hk, rfl, KB⟩ := hrel
      by_cases hlt : k < n
      · obtain ⟨b, o, t, rfl, hb, hx, hxr, hld⟩ := HS2.out.tab hlt
        obtain ⟨d0, d1, d2, d3, d4, d5⟩ := hld wr KB.out
        have y1 : (k : Int) < (n : Int) := by omega
        have y0 : (0 : Int) ≤ (k : Int) := by omega
        obtain ⟨w5, hw5⟩ : ∃ w5, w5 = wr.alloc (tabBox t) := ⟨_, rfl⟩
        have HW5 := Lib.hid hw5
        have B25 : Hid (Below w2.heap.size w2 w5) := by rw [hw5]; exact below_new KB.out _
        have R5 : Hid (w5.heap[wr.heap.size]? = some (tabBox t)) := by rw [hw5]; exact heap_alloc_new _ _
        have HR := Lib.hid hxr
        obtain ⟨c0, p0, hc0⟩ : ∃ c0 p0, Hid (at0 (columnP t.cols s) = c0 ∧ (columnP t.cols s).isSome = p0) := ⟨_, _, rfl, rfl⟩
        obtain ⟨x, p1, hc1⟩ : ∃ x p1, Hid (f3At t.fks (foreignP t.fks zx) = x ∧ (foreignP t.fks zx).isSome = p1) := ⟨_, _, rfl, rfl⟩
        have C1 : Hid (∀ W, Below w2.heap.size w2 W → Calls Try.prog 18 #[.agg #[.string t.nm, .slice t.ca t.nc t.cc, .slice t.ua t.nu t.uc, .slice t.ha t.nh t.hc, .slice t.fa t.nf t.fc, .slice t.sa t.ns t.sc], .string s] W fun e w' => e = .returned (.tuple #[.int .i64 c0, .bool p0]) ∧ Below W.heap.size W w') := fun W hW => by rw [← hc0.out.1, ← hc0.out.2]; exact column_any t s W (HR.out.cols.below hW)
        have C2 : Hid (∀ W, Below w2.heap.size w2 W → Calls Try.prog 19 #[.agg #[.string t.nm, .slice t.ca t.nc t.cc, .slice t.ua t.nu t.uc, .slice t.ha t.nh t.hc, .slice t.fa t.nf t.fc, .slice t.sa t.ns t.sc], .string s] W fun e w' => e = .returned (.tuple #[.int .i64 c0, .bool p0]) ∧ Below W.heap.size W w') := fun W hW => by rw [← hc0.out.1, ← hc0.out.2]; exact refColumn_any t s W (HR.out.cols.below hW)
        have F1 : Hid (∀ W, Below w2.heap.size w2 W → Calls Try.prog 20 #[.agg #[.string t.nm, .slice t.ca t.nc t.cc, .slice t.ua t.nu t.uc, .slice t.ha t.nh t.hc, .slice t.fa t.nf t.fc, .slice t.sa t.ns t.sc], .int .i64 zx] W fun e w' => e = .returned (.tuple #[.agg #[.int .i64 x.a, .int .i64 x.b, .int .i64 x.c], .bool p1]) ∧ Below W.heap.size W w') := fun W hW => by rw [← hc1.out.1, ← hc1.out.2]; exact foreign_any t zx W (HR.out.fks.below hW)
        have F2 : Hid (∀ W, Below w2.heap.size w2 W → Calls Try.prog 21 #[.agg #[.string t.nm, .slice t.ca t.nc t.cc, .slice t.ua t.nu t.uc, .slice t.ha t.nh t.hc, .slice t.fa t.nf t.fc, .slice t.sa t.ns t.sc], .int .i64 zx] W fun e w' => e = .returned (.tuple #[.agg #[.int .i64 x.a, .int .i64 x.b, .int .i64 x.c], .bool p1]) ∧ Below W.heap.size W w') := fun W hW => by rw [← hc1.out.1, ← hc1.out.2]; exact refForeign_any t zx W (HR.out.fks.below hW)
        clear hb hx hxr hld hw5 hc0 hc1 KB
        go_upto_region 10 with fail
        rw [show wr.alloc (tabBox t) = w5 from HW5.out.symm]
        clear HW5 d0 d1 d2 d3 d4 d5
        generalize wr.heap.size = g5 at R5 ⊢
        obtain ⟨d0, d1, d2, d3, d4, d5⟩ := tab_row R5.out
        go_wp2_with fail
        refine (C1.out _ B25.out).mono ?_
        rintro e w6 ⟨rfl, b⟩
        have B26 := Lib.hid (below_then B25.out b)
        have R6 := Lib.hid (row_below R5.out b)
        clear b d0 d1 d2 d3 d4 d5 C1
        obtain ⟨d0, d1, d2, d3, d4, d5⟩ := tab_row R6.out
        go_wp2_with fail
        refine (C2.out _ B26.out).mono ?_
        rintro e w7 ⟨rfl, b⟩
        have B27 := Lib.hid (below_then B26.out b)
        have R7 := Lib.hid (row_below R6.out b)
        clear b d0 d1 d2 d3 d4 d5 C2
        obtain ⟨d0, d1, d2, d3, d4, d5⟩ := tab_row R7.out
        obtain ⟨zz0, zz1⟩ : w7.cell? ⟨w.heap.size + 1, 0, none⟩ = some (.int .i64 zx) ∧ w7.cell? ⟨w.heap.size + 1, 1, none⟩ = some (.int .i64 zy) := ⟨cell_row (row_below Z2.out B27.out) 0, cell_row (row_below Z2.out B27.out) 1⟩
        go_wp2_with fail
        refine (F1.out _ B27.out).mono ?_
        rintro e w8 ⟨rfl, b⟩
        have B28 := Lib.hid (below_then B27.out b)
        have R8 := Lib.hid (row_below R7.out b)
        clear b d0 d1 d2 d3 d4 d5 F1 zz0 zz1
        obtain ⟨w9, hw9⟩ : ∃ w9, w9 = w8.alloc (fkBox x) := ⟨_, rfl⟩
        have HW9 := Lib.hid hw9
        have B29 : Hid (Below w2.heap.size w2 w9) := by rw [hw9]; exact below_new B28.out _
        have R9 : Hid (w9.heap[g5]? = some (tabBox t)) := by rw [hw9]; exact row_below R8.out (below_new (Below.refl _ _) _)
        have X9 : Hid (w9.heap[w8.heap.size]? = some (fkBox x)) := by rw [hw9]; exact heap_alloc_new _ _
        clear hw9
        go_upto_region 13 with fail
        rw [show w8.alloc (fkBox x) = w9 from HW9.out.symm]
        clear HW9
        generalize w8.heap.size = g9 at X9 ⊢
        obtain ⟨d0, d1, d2, d3, d4, d5⟩ := tab_row R9.out
        obtain ⟨zz0, zz1⟩ : w9.cell? ⟨w.heap.size + 1, 0, none⟩ = some (.int .i64 zx) ∧ w9.cell? ⟨w.heap.size + 1, 1, none⟩ = some (.int .i64 zy) := ⟨cell_row (row_below Z2.out B29.out) 0, cell_row (row_below Z2.out B29.out) 1⟩
        go_wp2_with fail
        refine (F2.out _ B29.out).mono ?_
        rintro e w10 ⟨rfl, b⟩
        have B210 := Lib.hid (below_then B29.out b)
        have X10 := Lib.hid (row_below X9.out b)
        clear b d0 d1 d2 d3 d4 d5 F2 zz0 zz1
        obtain ⟨w11, hw11⟩ : ∃ w11, w11 = w10.alloc (fkBox x) := ⟨_, rfl⟩
        have HW11 := Lib.hid hw11
        have B211 : Hid (Below w2.heap.size w2 w11) := by rw [hw11]; exact below_new B210.out _
        have X11 : Hid (w11.heap[g9]? = some (fkBox x)) := by rw [hw11]; exact row_below X10.out (below_new (Below.refl _ _) _)
        have Y11 : Hid (w11.heap[w10.heap.size]? = some (fkBox x)) := by rw [hw11]; exact heap_alloc_new _ _
        clear hw11
        go_upto_region 14 with fail
        rw [show w10.alloc (fkBox x) = w11 from HW11.out.symm]
        clear HW11
        generalize w10.heap.size = g11 at Y11 ⊢
        obtain ⟨e0, e1, e2⟩ := f3_row X11.out
        obtain ⟨f0, f1, f2⟩ := f3_row Y11.out
        go_wp2_with fail
        exact ⟨⟨k + 1, by omega, by go_num, B211⟩, by simp [intOf]; omega⟩
      · obtain rfl : k = n := by omega
        have y1 : ¬ (k : Int) < (k : Int) := by omega
        have q1 : Below w2.heap.size w2 wr.drew := KB.out.drew
        have q2 : wr.drew.cell? ⟨w.heap.size, 0, none⟩ = some (.slice A k c) := sch_row (row_below R2.out q1)
        have q3 : wr.drew.cell? ⟨w.heap.size + 1, 0, none⟩ = some (.int .i64 zx) := cell_row (row_below Z2.out q1) 0
        have q4 : wr.drew.cell? ⟨w.heap.size + 1, 1, none⟩ = some (.int .i64 zy) := cell_row (row_below Z2.out q1) 1
        go_wp2_with fail
        go_region_held3 (fun W => Below w2.heap.size w2 W ∧ W.cell? ⟨w.heap.size, 0, none⟩ = some (.slice A k c) ∧ W.cell? ⟨w.heap.size + 1, 0, none⟩ = some (.int .i64 zx) ∧ W.cell? ⟨w.heap.size + 1, 1, none⟩ = some (.int .i64 zy))
          (first
            | (go_split_ands
               refine ⟨?_, ?_, ?_, ?_⟩
               · exact below_then (by assumption) bb
               all_goals exact (bb.cell (World.block_lt_of_cell? _ _ (by assumption))).trans (by assumption))
            | (go_split_ands
               refine ⟨?_, ?_, ?_, ?_⟩
               · exact Below.drew (by assumption)
               all_goals (show World.cell? _ _ = _; assumption))
            | (go_split_ands
               refine ⟨?_, ?_, ?_, ?_⟩
               all_goals assumption))
          (first
            | (go_at_call 22; refine (K1.out _ (by go_split_ands; assumption)).mono ?_; rintro e wx ⟨Aa, ca, rfl, rka, bb⟩; have RKA := Lib.hid rka; (try replace RKB := Lib.hid (RKB.out.below bb)); clear rka)
            | (go_at_call 23; refine (K2.out _ (by go_split_ands; assumption)).mono ?_; rintro e wx ⟨Ab, cb, rfl, rkb, bb⟩; have RKB := Lib.hid rkb; (try replace RKA := Lib.hid (RKA.out.below bb)); clear rkb))
        all_goals
          go_split_ands
          have HZ := Lib.hid (show Below w2.heap.size w2 wx by assumption)
          have hm9 : m ≤ 4294967296 := Nat.le_of_lt HM.out
          clear q1 q2 q3 q4 bb
          go_wp2_with fail
          go_loopw [115] (fun i wr => ∃ k : Nat, k ≤ m ∧ i = .int .i64 k ∧ Hid (Below wx.heap.size wx wr)) (fun i _ => m - (intOf i).toNat)
          case atStart => exact ⟨0, Nat.zero_le _, rfl, Below.refl _ _⟩
          case round =>
            obtain ⟨j, hj, rfl, JB⟩ := hrel
            have HF := Lib.hid (below_then HB2.out (below_then HZ.out JB.out))
            by_cases hjm : j < m
            · obtain ⟨ba, oa, pa, rfl, ha1, ha2, ha3⟩ := RKA.out.at_ hjm
              obtain ⟨bb, ob, pb, rfl, hb1, hb2, hb3⟩ := RKB.out.at_ hjm
              rw [ha2] at hb2
              cases hb2
              have u0 : wr.cell? ⟨ba, oa + j * 2, none⟩ = some (.int .i64 pa.1) := (JB.out.cell (p := ⟨ba, oa + j * 2, none⟩) ha1).trans (ha3 0 _ rfl)
              have u1 : wr.cell? ⟨ba, oa + j * 2 + 1, none⟩ = some (.int .i64 pa.2) := (JB.out.cell (p := ⟨ba, oa + j * 2 + 1, none⟩) ha1).trans (ha3 1 _ rfl)
              have v0 : wr.cell? ⟨bb, ob + j * 2, none⟩ = some (.int .i64 pa.1) := (JB.out.cell (p := ⟨bb, ob + j * 2, none⟩) hb1).trans (hb3 0 _ rfl)
              have v1 : wr.cell? ⟨bb, ob + j * 2 + 1, none⟩ = some (.int .i64 pa.2) := (JB.out.cell (p := ⟨bb, ob + j * 2 + 1, none⟩) hb1).trans (hb3 1 _ rfl)
              have y3 : (j : Int) < (m : Int) := by omega
              have y2 : (0 : Int) ≤ (j : Int) := by omega
              clear ha1 ha2 ha3 hb1 hb3
              go_wp2_with fail
              refine wp_region_quiet_lit (by kernel_rfl) (by kernel_rfl) ?_
              repeat (with_reducible refine wpQuiet_step (fun K hK => ?_); go_simp; first | (with_reducible refine hK _ ?_; clear hK K) | (apply Exists.intro; with_reducible refine ⟨fun _ => ?_, hK _ ?_⟩; (fail); clear hK K))
              with_reducible refine wpQuiet_nil ?_
              intro _ hw'
              obtain ⟨nq, hw''⟩ := hw'
              subst hw''
              go_wp2_with fail
              exact ⟨⟨j + 1, by omega, by go_num, below_drewN JB.out nq⟩, by simp [intOf]; omega⟩
            · obtain rfl : j = m := by omega
              have y3 : ¬ (j : Int) < (j : Int) := by omega
              go_wp2_with fail
              refine (alive11_any _).mono ?_
              rintro e wz ⟨rfl, bz⟩
              have HY := Lib.hid (below_then HF.out bz)
              clear bz
              go_wp2_with fail
              go_ret
              exact ⟨rfl, HY.out⟩

set_option maxRecDepth 100000 in
theorem contract (H : Type) (enc : TypeId × Value → H) (W : World) (base : Nat) (args : Array Value) (ds gs : List (DataW H)) (before : List MemPlace)
    (hval : ∀ (j : Nat) t v, Try.f5.params[j]? = some t → args[j]? = some v → Value.okWide Try.prog W .any base t v)
    (hW : DataW.Whole enc Try.prog Try.f5.params.toList Rows.schemaFindsSpec.vars false W args.toList ds gs before)
    (hsz : (DataW.weightsEach Try.prog (Try.f5.params.toList ++ Rows.schemaFindsSpec.plain.varTypes Try.prog) (ds ++ gs)).all (· ≤ reachBytes) = true) :
    Calls Try.prog 5 args W fun e W' => ∃ v, e = .returned v ∧ Rows.schemaFindsSpec.post enc Try.prog Try.f5 false true false false W args v W' := by
  have hlt : ∀ x ∈ before, x.block < W.heap.size := fun x hx => by simpa using hW.lt x hx
  refine law_step 4 Try.laid_ (by kernel_rfl) rfl Try.underlying4 rfl hW (fun xs hx => ?_) ?_
  · match xs, hx with
    | [d0, d1, d2], _ => rfl
  · obtain ⟨p, q, hA0, hV, rfl, _, _⟩ := hW
    have hA : DataW.TrodAll enc Try.prog W 0 (fun _ => true) true Try.f5.params.toList args.toList ds p := hA0
    rw [Try.params5] at hA hval hsz
    obtain ⟨v0, vs0, d0, ds0, p0, q0, e0, rfl, rfl, h0, r0⟩ := trodAll_cons hA
    obtain ⟨v1, vs1, d1, ds1, p1, q1, e1, rfl, rfl, h1, r1⟩ := trodAll_cons r0
    obtain ⟨v2, vs2, d2, ds2, p2, q2, e2, rfl, rfl, h2, r2⟩ := trodAll_cons r1
    obtain ⟨rfl, rfl, rfl⟩ := trodAll_nil r2
    subst e2
    subst e1
    obtain rfl : args = #[v0, v1, v2] := by cases args; simp_all
    clear e0 hA0
    have hw0 : ∀ x ∈ d0.weights Try.prog 26, x ≤ reachBytes := fun x hx => by simpa using List.all_eq_true.1 hsz _ (DataW.weights_mem_each (j := 0) rfl rfl x hx)
    obtain ⟨A0, n0, c0, l0, rfl, rd0, sm0⟩ := open_schema (hval 0 26 v0 rfl rfl) h0 hw0
    obtain ⟨s, rfl, rfl, rfl, ws1⟩ := open_string Try.underlying9 (hval 1 9 v1 rfl rfl) h1
    obtain ⟨x2, y2, rfl, wx2, wy2⟩ := open_arr2 (hval 2 30 v2 rfl rfl) h2
    exact walk A0 n0 c0 l0 s x2 y2 W rd0 sm0

set_option maxRecDepth 100000 in
theorem lifted (os : Os) (started : os.Started) (H : Type) (enc : TypeId × Value → H) :
    ReturnsInHanded {} Try.checked os 5 .any (Rows.schemaFindsSpec.pre6 enc Try.prog Try.f5 Rows.schemaFindsRow.domain false) (Rows.schemaFindsSpec.post enc Try.prog Try.f5 false true false false) := by
  refine returnsInHanded_of_change_sized (C := Try.checked) Try.own_ started (by kernel_rfl) Try.func5
    (ChangeSpec.witness6 (enc := enc) (C := Try.checked) false ⟨#[], #[.agg #[.slice none 0 0], .string ⟨#[]⟩, .agg #[.int .i64 0, .int .i64 0]], []⟩ 8 (by kernel_rfl) (by kernel_rfl) (by kernel_rfl) (by kernel_rfl)) ?_
  intro W base args ds gs before hval hW _ hsz _
  exact contract H enc W base args ds gs before hval hW hsz

theorem holds : Rows.SchemaFindsSaid :=
  OpenClaim.holds_of_wide 5 Try.f5 rfl rfl rfl rfl rfl rfl rfl ⟨rfl, rfl, rfl, rfl, rfl⟩ rfl rfl rfl rfl rfl (by kernel_rfl) Try.func5 (by kernel_rfl)
    (of_decide_eq_true (by kernel_rfl)) (by unfold Func.isWrapper; first | (rw [if_pos (by decide +kernel)]; kernel_rfl) | (rw [if_neg (by decide +kernel)]; exact ⟨rfl, rfl⟩))
    (fun os started H enc _ => lifted os started H enc)
end Go.Proofs.Ytogfnjlhfbpneaa.schemaFinds
