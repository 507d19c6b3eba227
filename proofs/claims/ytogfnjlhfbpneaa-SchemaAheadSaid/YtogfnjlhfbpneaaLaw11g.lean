/- Whatever schema and table come in: SchemaAhead answers true: a table without foreign keys of its own may stand behind any schema that is right, if its name is another one, and it may be alone. No condition. -/
import Derived.Test.YtogfnjlhfbpneaaRows
import Derived.Test.YtogfnjlhfbpneaaLaw
import Derived.Test.YtogfnjlhfbpneaaSchAlive
import Derived.Test.YtogfnjlhfbpneaaSchOpen
import Derived.Test.YtogfnjlhfbpneaaSchMore
import Derived.Test.YtogfnjlhfbpneaaSchApp
namespace Go.Proofs.Ytogfnjlhfbpneaa.schemaAhead
open Go.ChangeShapes Go.WideShapes Go.ChangeAt Go.RowKit Go.ChangeMaps

theorem one_tab {W : World} {t : T6} (h : t.Reads W) : RdS (W.alloc (tabBox t)) (some ⟨W.heap.size, 0, none⟩) 1 1 [t] :=
  ⟨rdg_new t6len W [t] #[.string t.nm, .slice t.ca t.nc t.cc, .slice t.ua t.nu t.uc, .slice t.ha t.nh t.hc, .slice t.fa t.nf t.fc, .slice t.sa t.ns t.sc] 39 rfl rfl (by decide) rfl, fun x hx => by
    obtain rfl := List.mem_singleton.1 hx
    exact h.below (below_new (Below.refl _ _) _)⟩

set_option maxRecDepth 100000 in
set_option maxHeartbeats 12800000 in
theorem walk (A : Option Addr) (n c : Nat) (l : List T6) (t : T6) (w : World) (h : RdS w A n c l) (hsm : ∀ t ∈ l, t.Small) (ht : t.Reads w) (hts : t.Small) : Calls Try.prog 9 #[.agg #[.slice A n c], t.agg] w fun e w' => e = .returned (.bool true) ∧ Below w.heap.size w w' := by
  have HB0 := Lib.hid (Below.refl w.heap.size w)
  obtain ⟨w1, hw1⟩ : ∃ w1, w1 = (w.alloc (schBox A n c)).alloc (tabBox t) := ⟨_, rfl⟩
  have HW1 := Lib.hid hw1
  have HB1 : Hid (Below w.heap.size w w1) := by rw [hw1]; exact below_new (below_new (Below.refl _ _) _) _
  have R1 : Hid (w1.heap[w.heap.size]? = some (schBox A n c)) := by rw [hw1, Below.heap_alloc _ _ _ (by simp)]; exact heap_alloc_new _ _
  have Z1 : Hid (w1.heap[w.heap.size + 1]? = some (tabBox t)) := by
    show _ = _
    rw [hw1]
    have := heap_alloc_new (w.alloc (schBox A n c)) (tabBox t)
    rwa [World.size_alloc] at this
  have HT1 := Lib.hid (ht.below HB1.out)
  have HTS := Lib.hid hts
  clear ht hts
  have HS1 := Lib.hid (h.below HB1.out)
  obtain ⟨f, hf⟩ : ∃ f, Hid (fewB l = f) := ⟨_, rfl⟩
  have CF : Hid (∀ W, RdS W A n c l → Calls Try.prog 13 #[.agg #[.slice A n c]] W fun e w' => e = .returned (.bool f) ∧ Below W.heap.size W w') := fun W hW => by rw [← hf.out]; exact refFew_any A n c l W hW hsm
  have hle := h.le
  have HL := Lib.hid h.len
  clear hw1 h hsm
  have s0 := sch_row R1.out
  go_enter Try.func9, Try.ntmps9
  go_upto_region 1 with fail
  rw [show (w.alloc (schBox A n c)).alloc (tabBox t) = w1 from HW1.out.symm]
  clear HW1
  go_wp2_with fail
  refine (CF.out _ HS1.out).mono ?_
  rintro e w2 ⟨rfl, b2⟩
  have HB2 := Lib.hid (below_then HB1.out b2)
  have R2 := Lib.hid (row_below R1.out b2)
  have Z2 := Lib.hid (row_below Z1.out b2)
  have HT2 := Lib.hid (HT1.out.below b2)
  have HS2 := Lib.hid (HS1.out.below b2)
  clear b2 CF HB1 R1 HS1 Z1 HT1 s0 HB0
  have s0 := sch_row R2.out
  obtain ⟨t0, t1, t2, t3, t4, t5⟩ := tab_row Z2.out
  cases f with
  | false =>
    go_wp2_with fail
    refine (alive11_any _).mono ?_
    rintro e wz ⟨rfl, bz⟩
    have HZ := Lib.hid (below_then HB2.out bz)
    clear bz
    go_wp2_with fail
    go_ret
    exact ⟨rfl, HZ.out⟩
  | true =>
    obtain ⟨f2, hf2⟩ : ∃ f2, Hid (fewB [t] = f2) := ⟨_, rfl⟩
    have CF2 : Hid (Calls Try.prog 13 #[.agg #[.slice (some ⟨w2.heap.size, 0, none⟩) 1 1]] (w2.alloc (tabBox t)) fun e w' => e = .returned (.bool f2) ∧ Below (w2.alloc (tabBox t)).heap.size (w2.alloc (tabBox t)) w') := by
      rw [← hf2.out]
      exact refFew_any _ 1 1 [t] _ (one_tab HT2.out) (fun x hx => by obtain rfl := List.mem_singleton.1 hx; exact HTS.out)
    go_wp2_with fail
    refine CF2.out.mono ?_
    rintro e w3 ⟨rfl, b⟩
    replace b := below_then (below_new (Below.refl w2.heap.size w2) (tabBox t)) b
    have HB3 := Lib.hid (below_then HB2.out b)
    have R3 := Lib.hid (row_below R2.out b)
    have Z3 := Lib.hid (row_below Z2.out b)
    have HS3 := Lib.hid (HS2.out.below b)
    have HT3 := Lib.hid (HT2.out.below b)
    clear b s0 t0 t1 t2 t3 t4 t5 HB2 R2 Z2 HS2 HT2
    have s0 := sch_row R3.out
    obtain ⟨t0, t1, t2, t3, t4, t5⟩ := tab_row Z3.out
    clear CF2
    cases f2 with
    | false =>
      go_wp2_with fail
      refine (alive11_any _).mono ?_
      rintro e wz ⟨rfl, bz⟩
      have HZ := Lib.hid (below_then HB3.out bz)
      clear bz
      go_wp2_with fail
      go_ret
      exact ⟨rfl, HZ.out⟩
    | true =>
    obtain ⟨E, hE⟩ : ∃ E, Hid (rightE l = E) := ⟨_, rfl⟩
    have CR := Lib.hid (right11_is A n c l E w3 HS3.out hE.out)
    go_wp2_with fail
    refine CR.out.mono ?_
    rintro e w4 ⟨rfl, b⟩
    clear CR
    have HB4 := Lib.hid (below_then HB3.out b)
    have R4 := Lib.hid (row_below R3.out b)
    have Z4 := Lib.hid (row_below Z3.out b)
    have HS4 := Lib.hid (HS3.out.below b)
    have HT4 := Lib.hid (HT3.out.below b)
    clear b s0 t0 t1 t2 t3 t4 t5 HB3 R3 Z3 HS3 HT3
    have s0 := sch_row R4.out
    obtain ⟨t0, t1, t2, t3, t4, t5⟩ := tab_row Z4.out
    by_cases hE0 : E = 0
    rotate_left
    · have q0 := beq_no hE0
      have q1 : (E != 0) = true := by simp [bne, q0]
      clear hE0
      go_wp2_with fail
      refine (alive11_any _).mono ?_
      rintro e wz ⟨rfl, bz⟩
      have HZ := Lib.hid (below_then HB4.out bz)
      clear bz
      go_wp2_with fail
      go_ret
      exact ⟨rfl, HZ.out⟩
    subst hE0
    by_cases hn16 : (16 : Int) ≤ (n : Int)
    · go_wp2_with fail
      refine (alive11_any _).mono ?_
      rintro e wz ⟨rfl, bz⟩
      have HZ := Lib.hid (below_then HB4.out bz)
      clear bz
      go_wp2_with fail
      go_ret
      exact ⟨rfl, HZ.out⟩
    by_cases hnf : (0 : Int) < (t.nf : Int)
    · go_wp2_with fail
      refine (alive11_any _).mono ?_
      rintro e wz ⟨rfl, bz⟩
      have HZ := Lib.hid (below_then HB4.out bz)
      clear bz
      go_wp2_with fail
      go_ret
      exact ⟨rfl, HZ.out⟩
    have hnf0 : Hid (t.nf = 0) := by show _ = _; omega
    have hlen : Hid (l.length < 16) := by show _ < _; rw [HL.out]; omega
    have hnn : n + 1 ≤ 4294967296 := by omega
    obtain ⟨th, hth⟩ : ∃ th, Hid (hasN T6.nm l t.nm = th) := ⟨_, rfl⟩
    obtain ⟨z0, CT⟩ : ∃ z0, Hid (Calls Try.prog 16 #[.agg #[.slice A n c], .string t.nm] w4 fun e w' => e = .returned (.tuple #[.int .i64 z0, .bool th]) ∧ Below w4.heap.size w4 w') :=
      ⟨at0 (tableP l t.nm), by rw [← hth.out, ← hasN_table]; exact table_any A n c l t.nm w4 HS4.out⟩
    go_wp2_with fail
    refine CT.out.mono ?_
    rintro e w5 ⟨rfl, b⟩
    clear CT
    have HB5 := Lib.hid (below_then HB4.out b)
    have R5 := Lib.hid (row_below R4.out b)
    have Z5 := Lib.hid (row_below Z4.out b)
    have HS5 := Lib.hid (HS4.out.below b)
    have HT5 := Lib.hid (HT4.out.below b)
    clear b s0 t0 t1 t2 t3 t4 t5 HB4 R4 Z4 HS4 HT4
    have s0 := sch_row R5.out
    obtain ⟨t0, t1, t2, t3, t4, t5⟩ := tab_row Z5.out
    obtain ⟨a1, ha1⟩ : ∃ a1, Hid (rightE [t] = a1) := ⟨_, rfl⟩
    have CO := Lib.hid (right11_is _ 1 1 [t] a1 _ (one_tab HT5.out) ha1.out)
    go_wp2_with fail
    refine CO.out.mono ?_
    rintro e w6 ⟨rfl, b⟩
    replace b := below_then (below_new (Below.refl w5.heap.size w5) (tabBox t)) b
    clear CO
    have HB6 := Lib.hid (below_then HB5.out b)
    have R6 := Lib.hid (row_below R5.out b)
    have Z6 := Lib.hid (row_below Z5.out b)
    have HS6 := Lib.hid (HS5.out.below b)
    have HT6 := Lib.hid (HT5.out.below b)
    clear b s0 t0 t1 t2 t3 t4 t5 HB5 R5 Z5 HS5 HT5
    have s0 := sch_row R6.out
    obtain ⟨t0, t1, t2, t3, t4, t5⟩ := tab_row Z6.out
    obtain ⟨bo, hbo⟩ : ∃ bo, Hid (rightE (l ++ [t]) = bo) := ⟨_, rfl⟩
    have CB : Hid (∀ A' c' W, Below w6.heap.size w6 W → RdTb W A' (n + 1) c' (l ++ [t]) → Calls Try.prog 14 #[.agg #[.slice A' (n + 1) c']] W fun e w' => e = .returned (.int .i64 bo) ∧ Below W.heap.size W w') := fun A' c' W hW hr =>
      right11_is A' (n + 1) c' (l ++ [t]) bo W ⟨hr, fun x hx => by
        rcases List.mem_append.1 hx with hx | hx
        · exact (HS6.out.each x hx).below hW
        · obtain rfl := List.mem_singleton.1 hx
          exact HT6.out.below hW⟩ hbo.out
    have hcap := HS6.out.row.cap
    have SL := fun W => run_fulltabs (A := A) (n := n) (c := c) hcap W
    have HROW : Hid (∀ W, Below w6.heap.size w6 W → RdTb W A n n l) := fun W hW => by
      have := (HS6.out.row.below hW).upto (Nat.le_refl n) (Nat.le_refl n) hcap
      rwa [List.take_of_length_le (by rw [HL.out]; exact Nat.le_refl _)] at this
    have KA : Hid (∀ W, Below w6.heap.size w6 W → (Below w6.heap.size w6 W ∧ W.cell? ⟨w.heap.size, 0, none⟩ = some (.slice A n c) ∧ W.cell? ⟨w.heap.size + 1, 0, none⟩ = some (.string t.nm) ∧ W.cell? ⟨w.heap.size + 1, 1, none⟩ = some (.slice t.ca t.nc t.cc) ∧ W.cell? ⟨w.heap.size + 1, 2, none⟩ = some (.slice t.ua t.nu t.uc) ∧ W.cell? ⟨w.heap.size + 1, 3, none⟩ = some (.slice t.ha t.nh t.hc) ∧ W.cell? ⟨w.heap.size + 1, 4, none⟩ = some (.slice t.fa t.nf t.fc) ∧ W.cell? ⟨w.heap.size + 1, 5, none⟩ = some (.slice t.sa t.ns t.sc))) := by
      intro W hb
      obtain ⟨e0, e1, e2, e3, e4, e5⟩ := tab_row (row_below Z6.out hb)
      exact ⟨hb, sch_row (row_below R6.out hb), e0, e1, e2, e3, e4, e5⟩
    have hS0 := KA.out w6.drew (Below.refl _ _).drew
    go_wp2_with fail
    clear s0 t0 t1 t2 t3 t4 t5
    go_region_held3 (fun W => Below w6.heap.size w6 W ∧ W.cell? ⟨w.heap.size, 0, none⟩ = some (.slice A n c) ∧ W.cell? ⟨w.heap.size + 1, 0, none⟩ = some (.string t.nm) ∧ W.cell? ⟨w.heap.size + 1, 1, none⟩ = some (.slice t.ca t.nc t.cc) ∧ W.cell? ⟨w.heap.size + 1, 2, none⟩ = some (.slice t.ua t.nu t.uc) ∧ W.cell? ⟨w.heap.size + 1, 3, none⟩ = some (.slice t.ha t.nh t.hc) ∧ W.cell? ⟨w.heap.size + 1, 4, none⟩ = some (.slice t.fa t.nf t.fc) ∧ W.cell? ⟨w.heap.size + 1, 5, none⟩ = some (.slice t.sa t.ns t.sc))
        (first
          | (go_split_ands; exact KA.out _ (below_then (by assumption) bb))
          | (go_split_ands; with_reducible refine KA.out _ (below_new ?_ _); first | assumption | (with_reducible refine Below.drew ?_; assumption))
          | (go_split_ands; with_reducible refine KA.out _ (Below.drew ?_); first | assumption | (with_reducible refine below_new ?_ _; assumption))
          | (exact KA.out _ (below_new (Below.refl _ _) _).drew)
          | (go_split_ands; exact KA.out _ (below_new (by assumption) _).drew)
          | (go_split_ands; exact KA.out _ (by assumption)))
        (first
          | ((try go_split_ands); refine step_fullT (by rfl) (.tmp 56) (.tmp 58) (by rfl) A n l _ 0 1 1 [t] (by rfl) (by rfl) (HROW.out _ (by first | assumption | exact (below_new (Below.refl _ _) _).drew | exact Below.drew (by assumption) | exact below_new (by assumption) _ | exact (below_new (by assumption) _).drew | exact below_new (Below.drew (by assumption)) _)) (rdg_new t6len _ [t] #[.string t.nm, .slice t.ca t.nc t.cc, .slice t.ua t.nu t.uc, .slice t.ha t.nh t.hc, .slice t.fa t.nf t.fc, .slice t.sa t.ns t.sc] 39 rfl rfl (by decide) (by simp)) (by decide) (by omega) ?_; intro A4 c4 w7 rd4 bb; have RD4 := Lib.hid rd4)
          | (go_at_call 14; refine (CB.out _ _ _ (by go_split_ands; assumption) (by first | exact RD4.out | exact RD4.out.below (by assumption) | exact RD4.out.drew)).mono ?_; rintro e wx ⟨rfl, bb⟩))
    all_goals
      go_split_ands
      have HB7 := Lib.hid (below_then HB6.out (show Below w6.heap.size w6 wx by assumption))
      have hboth : Hid (bo = tabErr (l.length + 1) l t) := by show _ = _; rw [← hbo.out]; exact right_app hE.out hlen.out t
      have halone : Hid (a1 = tabErr 1 [] t) := by show _ = _; rw [← ha1.out]; exact right_one11 t
      by_cases ha0 : a1 = 0
      · cases th with
        | true =>
          have e5 : Hid (bo = 5) := by show _ = _; rw [hboth.out]; exact tab_there (m := 1) hth.out (by rw [← halone.out]; exact ha0)
          obtain rfl := e5.out
          have q0 := beq_yes ha0
          subst ha0
          go_wp2_with fail
          refine (alive11_any _).mono ?_
          rintro e wz ⟨rfl, bz⟩
          have HZ := Lib.hid (below_then HB7.out bz)
          clear bz
          go_wp2_with fail
          go_ret
          exact ⟨rfl, HZ.out⟩
        | false =>
          have e5 : Hid (bo = a1) := by show _ = _; rw [hboth.out, halone.out]; exact tab_other hnf0.out hth.out
          obtain rfl := e5.out
          subst ha0
          go_wp2_with fail
          refine (alive11_any _).mono ?_
          rintro e wz ⟨rfl, bz⟩
          have HZ := Lib.hid (below_then HB7.out bz)
          clear bz
          go_wp2_with fail
          go_ret
          exact ⟨rfl, HZ.out⟩
      · have q0 := beq_no ha0
        cases th with
        | true =>
          clear ha0
          obtain ⟨qb, hqb⟩ : ∃ qb, (bo == a1) = qb := ⟨_, rfl⟩
          cases qb with
          | true =>
            go_wp2_with fail
            refine (alive11_any _).mono ?_
            rintro e wz ⟨rfl, bz⟩
            have HZ := Lib.hid (below_then HB7.out bz)
            clear bz
            go_wp2_with fail
            go_ret
            exact ⟨rfl, HZ.out⟩
          | false =>
            go_wp2_with fail
            refine (alive11_any _).mono ?_
            rintro e wz ⟨rfl, bz⟩
            have HZ := Lib.hid (below_then HB7.out bz)
            clear bz
            go_wp2_with fail
            go_ret
            exact ⟨rfl, HZ.out⟩
        | false =>
          have e5 : Hid (bo = a1) := by show _ = _; rw [hboth.out, halone.out]; exact tab_other hnf0.out hth.out
          obtain rfl := e5.out
          clear ha0
          go_wp2_with fail
          refine (alive11_any _).mono ?_
          rintro e wz ⟨rfl, bz⟩
          have HZ := Lib.hid (below_then HB7.out bz)
          clear bz
          go_wp2_with fail
          go_ret
          exact ⟨by simp, HZ.out⟩

set_option maxRecDepth 100000 in
theorem contract (H : Type) (enc : TypeId × Value → H) (W : World) (base : Nat) (args : Array Value) (ds gs : List (DataW H)) (before : List MemPlace)
    (hval : ∀ (j : Nat) t v, Try.f9.params[j]? = some t → args[j]? = some v → Value.okWide Try.prog W .any base t v)
    (hW : DataW.Whole enc Try.prog Try.f9.params.toList Rows.schemaAheadSpec.vars false W args.toList ds gs before)
    (hsz : (DataW.weightsEach Try.prog (Try.f9.params.toList ++ Rows.schemaAheadSpec.plain.varTypes Try.prog) (ds ++ gs)).all (· ≤ reachBytes) = true) :
    Calls Try.prog 9 args W fun e W' => ∃ v, e = .returned v ∧ Rows.schemaAheadSpec.post enc Try.prog Try.f9 false true false false W args v W' := by
  have hlt : ∀ x ∈ before, x.block < W.heap.size := fun x hx => by simpa using hW.lt x hx
  refine law_step 4 Try.laid_ (by kernel_rfl) rfl Try.underlying4 rfl hW (fun xs hx => ?_) ?_
  · match xs, hx with
    | [d0, d1], _ => rfl
  · obtain ⟨p, q, hA0, hV, rfl, _, _⟩ := hW
    have hA : DataW.TrodAll enc Try.prog W 0 (fun _ => true) true Try.f9.params.toList args.toList ds p := hA0
    rw [Try.params9] at hA hval hsz
    obtain ⟨v0, vs0, d0, ds0, p0, q0, e0, rfl, rfl, h0, r0⟩ := trodAll_cons hA
    obtain ⟨v1, vs1, d1, ds1, p1, q1, e1, rfl, rfl, h1, r1⟩ := trodAll_cons r0
    obtain ⟨rfl, rfl, rfl⟩ := trodAll_nil r1
    subst e1
    obtain rfl : args = #[v0, v1] := by cases args; simp_all
    clear e0 hA0
    have hw0 : ∀ x ∈ d0.weights Try.prog 26, x ≤ reachBytes := fun x hx => by simpa using List.all_eq_true.1 hsz _ (DataW.weights_mem_each (j := 0) rfl rfl x hx)
    obtain ⟨A0, n0, c0, l0, rfl, rd0, sm0⟩ := open_schema (hval 0 26 v0 rfl rfl) h0 hw0
    have hw1 : ∀ x ∈ d1.weights Try.prog 39, x ≤ reachBytes := fun x hx => by simpa using List.all_eq_true.1 hsz _ (DataW.weights_mem_each (j := 1) rfl rfl x hx)
    obtain ⟨t1, rfl, rd1, sm1⟩ := open_table (hval 1 39 v1 rfl rfl) h1 hw1
    exact walk A0 n0 c0 l0 t1 W rd0 sm0 rd1 sm1

set_option maxRecDepth 100000 in
theorem lifted (os : Os) (started : os.Started) (H : Type) (enc : TypeId × Value → H) :
    ReturnsInHanded {} Try.checked os 9 .any (Rows.schemaAheadSpec.pre6 enc Try.prog Try.f9 Rows.schemaAheadRow.domain false) (Rows.schemaAheadSpec.post enc Try.prog Try.f9 false true false false) := by
  refine returnsInHanded_of_change_sized (C := Try.checked) Try.own_ started (by kernel_rfl) Try.func9
    (ChangeSpec.witness6 (enc := enc) (C := Try.checked) false ⟨#[], #[.agg #[.slice none 0 0], .agg #[.string ⟨#[]⟩, .slice none 0 0, .slice none 0 0, .slice none 0 0, .slice none 0 0, .slice none 0 0]], []⟩ 8 (by kernel_rfl) (by kernel_rfl) (by kernel_rfl) (by kernel_rfl)) ?_
  intro W base args ds gs before hval hW _ hsz _
  exact contract H enc W base args ds gs before hval hW hsz

theorem holds : Rows.SchemaAheadSaid :=
  OpenClaim.holds_of_wide 9 Try.f9 rfl rfl rfl rfl rfl rfl rfl ⟨rfl, rfl, rfl, rfl, rfl⟩ rfl rfl rfl rfl rfl (by kernel_rfl) Try.func9 (by kernel_rfl)
    (of_decide_eq_true (by kernel_rfl)) (by unfold Func.isWrapper; first | (rw [if_pos (by decide +kernel)]; kernel_rfl) | (rw [if_neg (by decide +kernel)]; exact ⟨rfl, rfl⟩))
    (fun os started H enc _ => lifted os started H enc)
end Go.Proofs.Ytogfnjlhfbpneaa.schemaAhead
