/- Whatever schema comes in: SchemaKids answers true: of one that is right each foreign key is a kid of the table that it points to, once, and of no other one. No condition. -/
import Derived.Test.YtogfnjlhfbpneaaRows
import Derived.Test.YtogfnjlhfbpneaaLaw
import Derived.Test.YtogfnjlhfbpneaaSchAlive
import Derived.Test.YtogfnjlhfbpneaaSchOpen
import Derived.Test.YtogfnjlhfbpneaaSchLaw
namespace Go.Proofs.Ytogfnjlhfbpneaa.schemaKids
open Go.ChangeShapes Go.WideShapes Go.ChangeAt Go.RowKit Go.ChangeMaps

set_option maxRecDepth 100000 in
set_option maxHeartbeats 12800000 in
theorem walk (A : Option Addr) (n c : Nat) (l : List T6) (w : World) (h : RdS w A n c l) (hsm : ∀ t ∈ l, t.Small) : Calls Try.prog 7 #[.agg #[.slice A n c]] w fun e w' => e = .returned (.bool true) ∧ Below w.heap.size w w' := by
  have HB0 := Lib.hid (Below.refl w.heap.size w)
  obtain ⟨w1, hw1⟩ : ∃ w1, w1 = w.alloc (schBox A n c) := ⟨_, rfl⟩
  have HW1 := Lib.hid hw1
  have HB1 : Hid (Below w.heap.size w w1) := by rw [hw1]; exact below_new (Below.refl _ _) _
  have R1 : Hid (w1.heap[w.heap.size]? = some (schBox A n c)) := by rw [hw1]; exact heap_alloc_new _ _
  have HS1 := Lib.hid (h.below HB1.out)
  obtain ⟨f, hf⟩ : ∃ f, Hid (fewB l = f) := ⟨_, rfl⟩
  have CF : Hid (∀ W, RdS W A n c l → Calls Try.prog 13 #[.agg #[.slice A n c]] W fun e w' => e = .returned (.bool f) ∧ Below W.heap.size W w') := fun W hW => by rw [← hf.out]; exact refFew_any A n c l W hW hsm
  have hle := h.le
  have HL := Lib.hid h.len
  clear hw1 h hsm
  have s0 := sch_row R1.out
  go_enter Try.func7, Try.ntmps7
  go_upto_region 1 with fail
  rw [show w.alloc (schBox A n c) = w1 from HW1.out.symm]
  clear HW1
  go_wp2_with fail
  refine (CF.out _ HS1.out).mono ?_
  rintro e w2 ⟨rfl, b2⟩
  have HB2 := Lib.hid (below_then HB1.out b2)
  have R2 := Lib.hid (row_below R1.out b2)
  have HS2 := Lib.hid (HS1.out.below b2)
  clear b2 CF HB1 R1 HS1 s0 HB0
  have s0 := sch_row R2.out
  cases f with
  | false =>
    go_wp2_with fail
    refine (alive11_any _).mono ?_
    rintro e wz ⟨rfl, bz⟩
    have HZ := Lib.hid (below_then HB2.out bz)
    clear bz
    go_wp2_with fail
    go_ret
    exact ⟨rfl, HZ.out⟩
  | true =>
    obtain ⟨E, hE⟩ : ∃ E, Hid (rightE l = E) := ⟨_, rfl⟩
    have CR := Lib.hid (right11_is A n c l E w2 HS2.out hE.out)
    go_wp2_with fail
    refine CR.out.mono ?_
    rintro e w3 ⟨rfl, b3⟩
    have HB3 := Lib.hid (below_then HB2.out b3)
    have R3 := Lib.hid (row_below R2.out b3)
    have HS3 := Lib.hid (HS2.out.below b3)
    clear b3 CR HB2 R2 HS2 s0
    have s0 := sch_row R3.out
    by_cases hE0 : E = 0
    rotate_left
    · have q0 := beq_no hE0
      have q1 : (E != 0) = true := by simp [bne, q0]
      clear hE0
      go_wp2_with fail
      refine (alive11_any _).mono ?_
      rintro e wz ⟨rfl, bz⟩
      have HZ := Lib.hid (below_then HB3.out bz)
      clear bz
      go_wp2_with fail
      go_ret
      exact ⟨rfl, HZ.out⟩
    · subst hE0
      have hfew : Hid (sumT l ≤ 400) := by
        have := hf.out
        simp only [fewB, Bool.and_eq_true, decide_eq_true_eq] at this
        exact this.2
      have hsum := Lib.hid (right_sum HS3.out hE.out)
      go_wp2_with fail
      clear s0
      go_loopw [3, 4, 22] (fun v3 v4 i wr => ∃ k a b : Nat, k ≤ n ∧ i = .int .i64 k ∧ v3 = .int .i64 a ∧ v4 = .int .i64 b ∧ Hid (a = sumF (l.take k)) ∧ Hid (b = sumK l k) ∧ Hid (Below w3.heap.size w3 wr)) (fun _ _ i _ => n - (intOf i).toNat)
      case atStart => exact ⟨0, 0, 0, Nat.zero_le _, rfl, rfl, rfl, rfl, rfl, Below.refl _ _⟩
      case round =>
        obtain ⟨k, a, b, hk, rfl, rfl, rfl, hfa, hkb, KB⟩ := hrel
        by_cases hlt : k < n
        · obtain ⟨bt, ot, t, hA, hb, hx, hxr, hld⟩ := HS3.out.tab hlt
          obtain ⟨d0, d1, d2, d3, d4, d5⟩ := hld wr KB.out
          rw [hA]
          have HA := Lib.hid hA
          have y1 : (k : Int) < (n : Int) := by omega
          have y0 : (0 : Int) ≤ (k : Int) := by omega
          obtain ⟨w5, hw5⟩ : ∃ w5, w5 = wr.alloc (tabBox t) := ⟨_, rfl⟩
          have HW5 := Lib.hid hw5
          have B5 : Hid (Below w3.heap.size w3 w5) := by rw [hw5]; exact below_new KB.out _
          have R5 : Hid (w5.heap[wr.heap.size]? = some (tabBox t)) := by rw [hw5]; exact heap_alloc_new _ _
          have hfa2 : Hid (a + t.nf = sumF (l.take (k + 1))) := by show _ = _; rw [sumF_take hx, hfa.out]
          obtain ⟨K, hK⟩ : ∃ K, Hid (kidsL l (k : Int) = K) := ⟨_, rfl⟩
          obtain ⟨m, hm⟩ : ∃ m, Hid (K.length = m) := ⟨_, rfl⟩
          have hkb2 : Hid (b + m = sumK l (k + 1)) := by show _ = _; rw [sumK_succ, hK.out, hm.out, hkb.out]
          have hba : a + t.nf ≤ 400 := by
            have h1 := sumF_take_le l (k + 1); have h2 := sumF_le l; have h3 := hfew.out; have h4 := hfa2.out
            omega
          have hbb : b + m ≤ 400 := by
            have h1 := sumK_mono l (show k + 1 ≤ n by omega); have h2 := sumF_le l; have h3 := hfew.out; have h4 := hkb2.out; have h5 := hsum.out
            omega
          have K1 : Hid (∀ W, Below w3.heap.size w3 W → Calls Try.prog 22 #[.agg #[.slice (some ⟨bt, ot, none⟩) n c], .int .i64 k] W fun e w' => ∃ A' c', e = .returned (.slice A' m c') ∧ RdK w' A' m c' K ∧ Below W.heap.size W w') := fun W hW => by
            rw [← hA]
            refine (kids_any A n c l k W (HS3.out.below hW) (kidsL_few HS3.out hf.out _)).mono ?_
            rintro e w' ⟨A', m', c', rfl, h1, h2⟩
            rw [hK.out] at h1
            obtain rfl : m = m' := by rw [← hm.out]; exact h1.len
            exact ⟨A', c', rfl, h1, h2⟩
          have v1 : IntKind.i64.wrap ((a : Int) + (t.nf : Int)) = ((a + t.nf : Nat) : Int) := by rw [wrap_is (by omega)]; omega
          have v2 : IntKind.i64.wrap ((b : Int) + (m : Int)) = ((b + m : Nat) : Int) := by rw [wrap_is (by omega)]; omega
          obtain ⟨a2, ha2⟩ : ∃ a2, Hid (a + t.nf = a2) := ⟨_, rfl⟩
          obtain ⟨b2, hb2⟩ : ∃ b2, Hid (b + m = b2) := ⟨_, rfl⟩
          rw [ha2.out] at v1 hfa2
          rw [hb2.out] at v2 hkb2
          clear hb hx hxr hld hw5 KB hA hfa hkb hba ha2 hb2
          go_upto_region 7 with fail
          rw [show wr.alloc (tabBox t) = w5 from HW5.out.symm]
          clear HW5 d0 d1 d2 d3 d4 d5
          generalize wr.heap.size = g5 at R5 ⊢
          obtain ⟨d0, d1, d2, d3, d4, d5⟩ := tab_row R5.out
          have s0 := sch_row (row_below R3.out B5.out)
          rw [HA.out] at s0
          go_wp2_with fail
          refine (K1.out _ B5.out).mono ?_
          rintro e w6 ⟨Ak, ck, rfl, rk, b6⟩
          have B6 := Lib.hid (below_then B5.out b6)
          have RK := Lib.hid rk
          clear b6 d0 d1 d2 d3 d4 d5 K1 s0 B5 R5 rk
          go_wp2_with fail
          clear v1 v2
          have hm9 : m ≤ 400 := by omega
          go_loopw [41] (fun i wr => ∃ q : Nat, q ≤ m ∧ i = .int .i64 q ∧ Hid (Below w6.heap.size w6 wr)) (fun i _ => m - (intOf i).toNat)
          case atStart => exact ⟨0, Nat.zero_le _, rfl, Below.refl _ _⟩
          case round =>
            obtain ⟨q, hq, rfl, JB⟩ := hrel
            have BJ := Lib.hid (below_then B6.out JB.out)
            by_cases hqm : q < m
            · obtain ⟨bk, ok, x, rfl, hbk, hx, hck⟩ := RK.out.at_ hqm
              have hx2 : (kidsL l (k : Int))[q]? = some x := by rw [hK.out]; exact hx
              obtain ⟨k', t', j', f, hkt, hjf, hfb, rfl⟩ := kidsL_at hx2
              have hkn : k' < n := by have := (List.getElem?_eq_some_iff.1 hkt).1; rw [HL.out] at this; exact this
              obtain ⟨bt', ot', u', hA', _, hu', hur, hul⟩ := HS3.out.tab hkn
              rw [hkt] at hu'
              cases hu'
              have ea := HA.out.symm.trans hA'
              cases ea
              have hjn : j' < t'.nf := by have := (List.getElem?_eq_some_iff.1 hjf).1; rw [hur.fks.len] at this; exact this
              obtain ⟨bf, of, f', hFA, _, hf', hfl⟩ := hur.fks.f3 hjn
              rw [hjf] at hf'
              cases hf'
              have u0 : wr.cell? ⟨bk, ok + q * 2, none⟩ = some (.int .i64 k') := (JB.out.cell (p := ⟨bk, ok + q * 2, none⟩) hbk).trans (hck 0 _ rfl)
              have u1 : wr.cell? ⟨bk, ok + q * 2 + 1, none⟩ = some (.int .i64 j') := (JB.out.cell (p := ⟨bk, ok + q * 2 + 1, none⟩) hbk).trans (hck 1 _ rfl)
              have y3 : (q : Int) < (m : Int) := by omega
              have y2 : (0 : Int) ≤ (q : Int) := by omega
              obtain ⟨w8, hw8⟩ : ∃ w8, w8 = wr.alloc (pairBox ((k' : Int), (j' : Int))) := ⟨_, rfl⟩
              have HW8 := Lib.hid hw8
              have J5 : Hid (Below w6.heap.size w6 w8) := by rw [hw8]; exact below_new JB.out _
              have P8 : Hid (w8.heap[wr.heap.size]? = some (pairBox ((k' : Int), (j' : Int)))) := by rw [hw8]; exact heap_alloc_new _ _
              have B8 := Lib.hid (below_then B6.out J5.out)
              have HUL := Lib.hid hul; have HFL := Lib.hid hfl; have HFB := Lib.hid hfb; have HFA2 := Lib.hid hFA
              have HRK := Lib.hid RK.out
              clear hw8 hx hkt hjf hfb hA' hur hul hFA hfl JB BJ
              go_upto_region 13 with fail
              rw [show wr.alloc (pairBox ((k' : Int), (j' : Int))) = w8 from HW8.out.symm]
              clear HW8 u0 u1
              generalize wr.heap.size = g8 at P8 ⊢
              have p0 : w8.cell? ⟨g8, 0, none⟩ = some (.int .i64 k') := cell_row P8.out 0
              have p1 : w8.cell? ⟨g8, 1, none⟩ = some (.int .i64 j') := cell_row P8.out 1
              have s0 := sch_row (row_below R3.out B8.out)
              rw [HA.out] at s0
              obtain ⟨d0, d1, d2, d3, d4, d5⟩ := HUL.out w8 B8.out
              rw [HFA2.out] at d4
              obtain ⟨e0, e1, e2⟩ := HFL.out w8 B8.out
              rw [HFB.out] at e1
              have z1 : (k' : Int) < (n : Int) := by omega
              have z2 : (0 : Int) ≤ (k' : Int) := by omega
              have z3 : (j' : Int) < (t'.nf : Int) := by omega
              have z4 : (0 : Int) ≤ (j' : Int) := by omega
              have v1 : decide ((n : Int) ≤ (k' : Int)) = false := decide_eq_false (by omega)
              have v2 : decide (n ≤ k') = false := decide_eq_false (by omega)
              have v3 : decide ((t'.nf : Int) ≤ (j' : Int)) = false := decide_eq_false (by omega)
              have v4 : decide (t'.nf ≤ j') = false := decide_eq_false (by omega)
              have v5 : decide ((k' : Int) < 0) = false := decide_eq_false (by omega)
              have v6 : decide ((j' : Int) < 0) = false := decide_eq_false (by omega)
              have v7 : ((k : Int) != (k : Int)) = false := by simp
              by_cases hq0 : 0 < q
              · obtain ⟨bk', ok', y, hK', hbk', hy, hck'⟩ := HRK.out.at_ (show q - 1 < m by omega)
                cases hK'
                have hy2 : (kidsL l (k : Int))[q - 1]? = some y := by rw [hK.out]; exact hy
                have hlex := kidsL_next hq0 hx2 hy2
                obtain ⟨k2, _, j2, _, _, _, _, rfl⟩ := kidsL_at hy2
                have i0 : w8.cell? ⟨bk, ok + (q - 1) * 2, none⟩ = some (.int .i64 k2) := (J5.out.cell (p := ⟨bk, ok + (q - 1) * 2, none⟩) hbk).trans (hck' 0 _ rfl)
                have i1 : w8.cell? ⟨bk, ok + (q - 1) * 2 + 1, none⟩ = some (.int .i64 j2) := (J5.out.cell (p := ⟨bk, ok + (q - 1) * 2 + 1, none⟩) hbk).trans (hck' 1 _ rfl)
                have y4 : (0 : Int) < (q : Int) := by omega
                have y5 : IntKind.i64.wrap ((q : Int) - 1) = (q : Int) - 1 := wrap_is (by omega)
                have y6 : ((q : Int) - 1).toNat = q - 1 := by omega
                have y7 : (0 : Int) ≤ (q : Int) - 1 := by omega
                have y8 : (q : Int) - 1 < (m : Int) := by omega
                have y9 : (1 : Int) ≤ (q : Int) := by omega
                have y10 : decide ((0 : Int) < (q : Int)) = true := decide_eq_true y4
                have y11 : decide (0 < q) = true := decide_eq_true hq0
                have y12 : 1 ≤ q := hq0
                clear hy hck' hbk' hy2 hx2
                rcases hlex with hl1 | ⟨hl1, hl2⟩
                · have hl1 : k2 < k' := by have : (k2 : Int) < (k' : Int) := hl1; omega
                  have m1 : decide ((k' : Int) < (k2 : Int)) = false := decide_eq_false (by omega)
                  have m2 : decide (k' < k2) = false := decide_eq_false (by omega)
                  have m3 : ((k' : Int) == (k2 : Int)) = false := by simp; omega
                  have m4 : (k' == k2) = false := by simp; omega
                  clear hl1
                  as_aux_lemma =>
                    go_wp2_with fail
                    (try dsimp only [List.append])
                    refine wp_region_quiet_lit (by kernel_rfl) (by kernel_rfl) ?_
                    repeat (with_reducible refine wpQuiet_step (fun K hK => ?_); go_simp; first | (with_reducible refine hK _ ?_; clear hK K) | (apply Exists.intro; with_reducible refine ⟨fun _ => ?_, hK _ ?_⟩; (fail); clear hK K))
                    with_reducible refine wpQuiet_nil ?_
                    intro _ hw'
                    obtain ⟨nq, hw''⟩ := hw'
                    subst hw''
                    go_wp2_with fail
                    exact ⟨⟨q + 1, by omega, by go_num, below_drewN J5.out nq⟩, by simp [intOf]; omega⟩
                · have hl1 : k2 = k' := by have : (k2 : Int) = (k' : Int) := hl1; omega
                  have hl2 : j2 < j' := by have : (j2 : Int) < (j' : Int) := hl2; omega
                  subst hl1
                  have m1 : decide ((k2 : Int) < (k2 : Int)) = false := decide_eq_false (by omega)
                  have m2 : decide (k2 < k2) = false := decide_eq_false (by omega)
                  have m3 : ((k2 : Int) == (k2 : Int)) = true := by simp
                  have m5 : decide ((j' : Int) ≤ (j2 : Int)) = false := decide_eq_false (by omega)
                  have m6 : decide (j' ≤ j2) = false := decide_eq_false (by omega)
                  clear hl2
                  as_aux_lemma =>
                    go_wp2_with fail
                    (try dsimp only [List.append])
                    refine wp_region_quiet_lit (by kernel_rfl) (by kernel_rfl) ?_
                    repeat (with_reducible refine wpQuiet_step (fun K hK => ?_); go_simp; first | (with_reducible refine hK _ ?_; clear hK K) | (apply Exists.intro; with_reducible refine ⟨fun _ => ?_, hK _ ?_⟩; (fail); clear hK K))
                    with_reducible refine wpQuiet_nil ?_
                    intro _ hw'
                    obtain ⟨nq, hw''⟩ := hw'
                    subst hw''
                    go_wp2_with fail
                    exact ⟨⟨q + 1, by omega, by go_num, below_drewN J5.out nq⟩, by simp [intOf]; omega⟩
              · obtain rfl : q = 0 := by omega
                clear y2 y3 hq0
                as_aux_lemma =>
                  go_wp2_with fail
                  (try dsimp only [List.append])
                  refine wp_region_quiet_lit (by kernel_rfl) (by kernel_rfl) ?_
                  repeat (with_reducible refine wpQuiet_step (fun K hK => ?_); go_simp; first | (with_reducible refine hK _ ?_; clear hK K) | (apply Exists.intro; with_reducible refine ⟨fun _ => ?_, hK _ ?_⟩; (fail); clear hK K))
                  iterate 21 (with_reducible refine wpQuiet_pass (by kernel_rfl) ?_; (try simp only [Act.put, List.setIfInBounds_toArray, List.set_cons_zero, List.set_cons_succ]))
                  repeat (with_reducible refine wpQuiet_step (fun K hK => ?_); go_simp; first | (with_reducible refine hK _ ?_; clear hK K) | (apply Exists.intro; with_reducible refine ⟨fun _ => ?_, hK _ ?_⟩; (fail); clear hK K))
                  with_reducible refine wpQuiet_nil ?_
                  intro _ hw'
                  obtain ⟨nq, hw''⟩ := hw'
                  subst hw''
                  go_wp2_with fail
                  exact ⟨⟨0 + 1, by omega, by go_num, below_drewN J5.out nq⟩, by simp [intOf]; omega⟩
            · obtain rfl : q = m := by omega
              have y3 : ¬ (q : Int) < (q : Int) := by omega
              go_wp2_with fail
              exact ⟨⟨k + 1, a2, b2, by omega, by go_num, rfl, rfl, hfa2, hkb2, BJ⟩, by simp [intOf]; omega⟩
        · obtain rfl : k = n := by omega
          have y1 : ¬ (k : Int) < (k : Int) := by omega
          have HBf := Lib.hid (below_then HB3.out KB.out)
          obtain rfl : a = b := by
            have h1 := hfa.out; have h2 := hkb.out; have h3 := hsum.out
            rw [List.take_of_length_le (by rw [HL.out]; exact Nat.le_refl _)] at h1
            omega
          go_wp2_with fail
          refine (alive11_any _).mono ?_
          rintro e wz ⟨rfl, bz⟩
          have HZ := Lib.hid (below_then HBf.out bz)
          clear bz
          go_wp2_with fail
          go_ret
          exact ⟨by simp, HZ.out⟩

set_option maxRecDepth 100000 in
theorem contract (H : Type) (enc : TypeId × Value → H) (W : World) (base : Nat) (args : Array Value) (ds gs : List (DataW H)) (before : List MemPlace)
    (hval : ∀ (j : Nat) t v, Try.f7.params[j]? = some t → args[j]? = some v → Value.okWide Try.prog W .any base t v)
    (hW : DataW.Whole enc Try.prog Try.f7.params.toList Rows.schemaKidsSpec.vars false W args.toList ds gs before)
    (hsz : (DataW.weightsEach Try.prog (Try.f7.params.toList ++ Rows.schemaKidsSpec.plain.varTypes Try.prog) (ds ++ gs)).all (· ≤ reachBytes) = true) :
    Calls Try.prog 7 args W fun e W' => ∃ v, e = .returned v ∧ Rows.schemaKidsSpec.post enc Try.prog Try.f7 false true false false W args v W' := by
  have hlt : ∀ x ∈ before, x.block < W.heap.size := fun x hx => by simpa using hW.lt x hx
  refine law_step 4 Try.laid_ (by kernel_rfl) rfl Try.underlying4 rfl hW (fun xs hx => ?_) ?_
  · match xs, hx with
    | [d0], _ => rfl
  · obtain ⟨p, q, hA0, hV, rfl, _, _⟩ := hW
    have hA : DataW.TrodAll enc Try.prog W 0 (fun _ => true) true Try.f7.params.toList args.toList ds p := hA0
    rw [Try.params7] at hA hval hsz
    obtain ⟨v0, vs0, d0, ds0, p0, q0, e0, rfl, rfl, h0, r0⟩ := trodAll_cons hA
    obtain ⟨rfl, rfl, rfl⟩ := trodAll_nil r0
    obtain rfl : args = #[v0] := by cases args; simp_all
    clear e0 hA0
    have hw0 : ∀ x ∈ d0.weights Try.prog 26, x ≤ reachBytes := fun x hx => by simpa using List.all_eq_true.1 hsz _ (DataW.weights_mem_each (j := 0) rfl rfl x hx)
    obtain ⟨A0, n0, c0, l0, rfl, rd0, sm0⟩ := open_schema (hval 0 26 v0 rfl rfl) h0 hw0
    exact walk A0 n0 c0 l0 W rd0 sm0

set_option maxRecDepth 100000 in
theorem lifted (os : Os) (started : os.Started) (H : Type) (enc : TypeId × Value → H) :
    ReturnsInHanded {} Try.checked os 7 .any (Rows.schemaKidsSpec.pre6 enc Try.prog Try.f7 Rows.schemaKidsRow.domain false) (Rows.schemaKidsSpec.post enc Try.prog Try.f7 false true false false) := by
  refine returnsInHanded_of_change_sized (C := Try.checked) Try.own_ started (by kernel_rfl) Try.func7
    (ChangeSpec.witness6 (enc := enc) (C := Try.checked) false ⟨#[], #[.agg #[.slice none 0 0]], []⟩ 8 (by kernel_rfl) (by kernel_rfl) (by kernel_rfl) (by kernel_rfl)) ?_
  intro W base args ds gs before hval hW _ hsz _
  exact contract H enc W base args ds gs before hval hW hsz

theorem holds : Rows.SchemaKidsSaid :=
  OpenClaim.holds_of_wide 7 Try.f7 rfl rfl rfl rfl rfl rfl rfl ⟨rfl, rfl, rfl, rfl, rfl⟩ rfl rfl rfl rfl rfl (by kernel_rfl) Try.func7 (by kernel_rfl)
    (of_decide_eq_true (by kernel_rfl)) (by unfold Func.isWrapper; first | (rw [if_pos (by decide +kernel)]; kernel_rfl) | (rw [if_neg (by decide +kernel)]; exact ⟨rfl, rfl⟩))
    (fun os started H enc _ => lifted os started H enc)
end Go.Proofs.Ytogfnjlhfbpneaa.schemaKids
