/- Whatever stamps come in: ClockTurned answers true: the order of stamps is one, however they stood. No condition. -/
import Derived.Test.YthhacniljipegaaRows
import Derived.Test.YthhacniljipegaaLaw
import Derived.Test.YthhacniljipegaaClkAwake
import Derived.Test.YthhacniljipegaaClkTurn
import Derived.Test.YthhacniljipegaaClkOpen
import Derived.Test.YthhacniljipegaaTail
namespace Go.Proofs.Ythhacniljipegaa.clockTurned
open Go.ChangeShapes Go.WideShapes Go.ChangeAt Go.RowKit Go.ChangeMaps

set_option maxRecDepth 100000 in
set_option maxHeartbeats 6400000 in
theorem walk (A : Option Addr) (n c : Nat) (l : List S3) (w : World) (h : RdS w A n c l) :
    Calls Try.prog 8 #[.slice A n c] w fun e w' => e = .returned (.bool true) ∧ Below w.heap.size w w' := by
  have hle := h.le
  have hl := h.len
  have HH := Lib.hid h; have HL := Lib.hid hl
  clear h hl
  by_cases hn : n ≤ 60
  · have hnz : ¬ (60 : Int) < (n : Int) := by omega
    have hw0 : IntKind.i64.wrap ((n : Int) - 1) = (n : Int) - 1 := wrap_is (by omega)
    obtain ⟨r, hr⟩ : ∃ r, Hid (r = l.reverse) := ⟨_, rfl⟩
    have HRL : Hid (r.length = n) := by show _ = _; rw [hr.out, List.length_reverse]; exact HL.out
    go_enter Try.func8, Try.ntmps8
    go_wp2_with fail
    refine (clkAwake_any _).mono ?_
    rintro e w1 ⟨rfl, b1⟩
    go_wp2_with fail
    go_loopw [4, 5] (fun v u wr => ∃ (j : Nat) (z : Int) (s : Value), s = v ∧ u = .int .i64 z ∧ Hid (z + 1 + j = n) ∧ -1 ≤ z ∧ Hid (wr.ownsRow w.heap.size 23 3 s j ((r.take j).flatMap S3.cells)) ∧ Below w.heap.size w wr) (fun _ u _ => (intOf u + 1).toNat)
    case atStart => exact ⟨0, (n : Int) - 1, _, rfl, rfl, by show _ = _; omega, by omega, by show World.ownsRow _ _ _ _ _ _ _; simpa using World.ownsRow_nil _ _ _ _, b1⟩
    case round =>
      clear hw0
      obtain ⟨j, z, s, rfl, rfl, hz, hz1, HO, B1⟩ := hrel
      by_cases hlt : 0 ≤ z
      · obtain ⟨m, rfl⟩ : ∃ m : Nat, z = (m : Int) := ⟨z.toNat, by omega⟩
        have hmn : m < n := by have := hz.out; omega
        have hmz : (m : Int) < (n : Int) := by omega
        obtain ⟨b, o, x, rfl, hb, hx, hld⟩ := (HH.out.below B1).stamp hmn
        obtain ⟨c0, c1, c2⟩ := hld wr (Below.refl _ _)
        have hsz := B1.size
        have hj60 : j < 4294967296 := by have := hz.out; omega
        have hxr : Hid (r.take (j + 1) = r.take j ++ [x]) := by
          show _ = _
          have h1 := HL.out; have h2 := hz.out
          have h3 : r[j]? = some x := by
            rw [hr.out, List.getElem?_reverse (by omega), ← hx]
            congr 1; omega
          rw [List.take_add_one, h3]; rfl
        have w1 : IntKind.i64.wrap ((m : Int) - 1) = (m : Int) - 1 := wrap_is (by omega)
        clear hb hx hld
        go_wp2_with (at_builtin; refine wpList_pushS rfl (.tmp 22) (.tmp 27) rfl w.heap.size _ j (r.take j) x _ rfl rfl rfl HO.out hj60 B1 hsz ?_; intro v1 w2 hown1 hbel1 hsz1)
        have HO2 : Hid (w2.ownsRow w.heap.size 23 3 v1 (j + 1) ((r.take (j + 1)).flatMap S3.cells)) := by rw [hxr.out]; exact hown1
        exact ⟨⟨j + 1, (m : Int) - 1, _, rfl, rfl, by have := hz.out; show _ = _; omega, by omega, HO2, hbel1⟩, by simp only [intOf]; omega⟩
      · have hjn : Hid (j = n) := by have := hz.out; show _ = _; omega
        have HB : Hid (∃ A c, s = .slice A n c ∧ RdS wr A n c r) := by
          have h1 := hjn.out
          subst h1
          have h2 := HO.out
          rw [List.take_of_length_le (by rw [HRL.out]; omega)] at h2
          exact RdG.own_ s3len (by decide) h2
        obtain ⟨Ar, cr, rfl, hrr⟩ := HB.out
        have R0 := Lib.hid (HH.out.below B1)
        have RR := Lib.hid hrr
        clear HB HO hrr
        obtain ⟨za, ZA⟩ : ∃ za, Hid (za = ordZ l) := ⟨_, rfl⟩
        obtain ⟨zb, ZB⟩ : ∃ zb, Hid (zb = ordZ r) := ⟨_, rfl⟩
        have O1 : Hid (∀ W, Below wr.heap.size wr W → Calls Try.prog 17 #[.slice A n c] W fun e w' => ∃ A' c', e = .returned (.slice A' n c') ∧ Rd w' A' n c' (vals .i64 za) ∧ Below W.heap.size W w') := by
          intro W hW
          rw [ZA.out]
          exact clkOrder_any A n c l W (R0.out.below hW) (by omega)
        have O2 : Hid (∀ W, Below wr.heap.size wr W → Calls Try.prog 17 #[.slice Ar n cr] W fun e w' => ∃ A' c', e = .returned (.slice A' n c') ∧ Rd w' A' n c' (vals .i64 zb) ∧ Below W.heap.size W w') := by
          intro W hW
          rw [ZB.out]
          exact clkOrder_any Ar n cr r W (RR.out.below hW) (by omega)
        have T1 : Hid (∀ i, i < n → ∃ (p q : Nat) (x : S3), za[i]? = some (p : Int) ∧ zb[i]? = some (q : Int) ∧ p < n ∧ q < n ∧ l[p]? = some x ∧ r[q]? = some x ∧ (∀ j, j < i → za[j]? ≠ some (p : Int))) := by
          intro i hi
          have h1 := HL.out
          subst h1
          rw [ZA.out, ZB.out, hr.out]
          exact turn_at l hi
        have T2 : Hid (∀ (i p q : Nat) (x y : S3), i + 1 < n → za[i]? = some (p : Int) → za[i + 1]? = some (q : Int) → l[p]? = some x → l[q]? = some y → lessS y x = false ∧ (x = y → p < q)) := by
          intro i p q x y hi h1 h2 h3 h4
          have h0 := HL.out
          subst h0
          rw [ZA.out] at h1 h2
          exact turn_two l hi h1 h2 h3 h4
        obtain ⟨Zm, hZs, hZ, MK⟩ := made_met n za (by omega)
        have HZ := Lib.hid hZ; have HZs := Lib.hid hZs
        have zlen : Hid (za.length = n) := by show _ = _; rw [ZA.out, ordZ_len]; exact HL.out
        clear hZ hZs ZA ZB
        have hzn : ¬ (0 : Int) ≤ z := hlt
        go_wp2_with fail
        refine (O1.out _ (Below.refl _ _)).mono ?_
        rintro e w2 ⟨Aa, ca, rfl, ra, b2⟩
        have R0 := Lib.hid (R0.out.below b2)
        have RR := Lib.hid (RR.out.below b2)
        have RA := Lib.hid ra
        have B2 := below_then B1 b2
        clear ra
        go_wp2_with fail
        refine (O2.out _ b2).mono ?_
        rintro e w3 ⟨Ab, cb, rfl, rb, b3⟩
        have R0 := Lib.hid (R0.out.below b3)
        have RR := Lib.hid (RR.out.below b3)
        have RA := Lib.hid (RA.out.below b3)
        have RB := Lib.hid rb
        have B3 := below_then B2 b3
        clear rb O1 O2 b2 b3
        go_wp2_with fail
        have M0 : Hid (Met (w3.alloc (.cells Zm 4)) w3.heap.size n za 0) := ⟨Zm, heap_alloc_new w3 _, HZs.out, HZ.out⟩
        have B4 := below_new (Below.refl w3.heap.size w3) (.cells Zm 4)
        clear MK HZ HZs
        go_loopw [9] (fun v wr => ∃ k : Nat, v = .int .i64 k ∧ k ≤ n ∧ Hid (Met wr w3.heap.size n za k) ∧ Below w3.heap.size w3 wr) (fun v _ => n - (intOf v).toNat)
        case atStart => exact ⟨0, rfl, Nat.zero_le _, M0, B4⟩
        case round =>
          clear M0 B4
          obtain ⟨k, rfl, hk, HM, BW⟩ := hrel
          by_cases hlt : k < n
          · have hlz : (k : Int) < (n : Int) := by omega
            obtain ⟨p, q, x, hza, hzb, hp, hq, hlp, hrq, hno⟩ := T1.out k hlt
            obtain ⟨ba, oa, u, rfl, hba, hu, hcu⟩ := RA.out.at_ (k := k) hlt
            obtain ⟨bz, ob, u', rfl, hbz, hu', hcu'⟩ := RB.out.at_ (k := k) hlt
            obtain ⟨bl, ol, x', rfl, hbl, hx', hldl⟩ := R0.out.stamp (k := p) hp
            obtain ⟨bk, ok, x'', rfl, hbk, hx'', hldr⟩ := RR.out.stamp (k := q) hq
            rw [hlp] at hx'; injection hx' with hx'; subst hx'
            rw [hrq] at hx''; injection hx'' with hx''; subst hx''
            rw [vals, List.getElem?_map, hza] at hu; injection hu with hu; subst hu
            rw [vals, List.getElem?_map, hzb] at hu'; injection hu' with hu'; subst hu'
            have KC : Hid (∀ W, Below w3.heap.size w3 W → W.cell? ⟨ba, oa + k, none⟩ = some (.int .i64 (p : Int)) ∧ W.cell? ⟨bz, ob + k, none⟩ = some (.int .i64 (q : Int)) ∧ W.cell? ⟨bl, ol + p * 3, none⟩ = some (.int .i64 x.t) ∧ W.cell? ⟨bl, ol + p * 3 + 1, none⟩ = some (.int .i64 x.d) ∧ W.cell? ⟨bl, ol + p * 3 + 2, none⟩ = some (.int .i64 x.q) ∧ W.cell? ⟨bk, ok + q * 3, none⟩ = some (.int .i64 x.t) ∧ W.cell? ⟨bk, ok + q * 3 + 1, none⟩ = some (.int .i64 x.d) ∧ W.cell? ⟨bk, ok + q * 3 + 2, none⟩ = some (.int .i64 x.q)) := by
              intro W hW
              obtain ⟨a1, a2, a3⟩ := hldl W hW
              obtain ⟨a4, a5, a6⟩ := hldr W hW
              exact ⟨(hW.cell (p := ⟨ba, oa + k, none⟩) hba).trans hcu, (hW.cell (p := ⟨bz, ob + k, none⟩) hbz).trans hcu', a1, a2, a3, a4, a5, a6⟩
            have hmf : wr.cell? ⟨w3.heap.size, p, none⟩ = some (.bool false) := by rw [HM.out.cell hp, metBy_new hno]
            have hfr := HM.out.frozen p
            have HM2 : Hid (∀ m, Met ((wr.drewN m).setCell ⟨w3.heap.size, p, none⟩ (.bool true)) w3.heap.size n za (k + 1)) := fun m => (show Met (wr.drewN m) w3.heap.size n za k from HM.out).put hza hp
            have BW2 : Hid (∀ m, Below w3.heap.size w3 ((wr.drewN m).setCell ⟨w3.heap.size, p, none⟩ (.bool true))) := fun m => (below_drewN BW m).setCell (Nat.le_refl w3.heap.size) (p := ⟨w3.heap.size, p, none⟩) (.bool true)
            have EQ : ∀ W, (Op.equalIn 10000 23 (.agg #[.int .i64 x.t, .int .i64 x.d, .int .i64 x.q]) (.agg #[.int .i64 x.t, .int .i64 x.d, .int .i64 x.q])).run Try.prog W = .ok true W := fun W => by
              rw [run_equalIn_stamp]; simp
            have p1' : (p : Int) < (n : Int) := by omega
            have q1' : (q : Int) < (n : Int) := by omega
            have n1 : decide ((p : Int) < 0) = false := decide_eq_false (by omega)
            have n2 : decide ((q : Int) < 0) = false := decide_eq_false (by omega)
            have n3 : decide ((n : Int) ≤ (p : Int)) = false := decide_eq_false (by omega)
            have n4 : decide ((n : Int) ≤ (q : Int)) = false := decide_eq_false (by omega)
            clear hno hrq hzb hcu' hldr hbz hbl hbk hq
            obtain ⟨c0, c1, c2, c3, c4, c5, c6, c7⟩ := KC.out wr BW
            rcases Nat.eq_zero_or_pos k with hk0 | hk0
            · have hkz : ¬ (0 : Int) < (k : Int) := by omega
              clear hk0
              go_wp2_with fail
              go_quiet (fail)
              go_wp2_with fail
              all_goals exact ⟨⟨k + 1, by go_num, by omega, HM2.out _, BW2.out _⟩, by simp only [intOf]; omega⟩
            · have hkz : (0 : Int) < (k : Int) := by omega
              obtain ⟨k1, hk1⟩ : ∃ k1, Hid (k = k1 + 1) := ⟨k - 1, by show _ = _; omega⟩
              have hk1n : k1 < n := by have := hk1.out; omega
              obtain ⟨p1, _, y, hza1, _, hp1, _, hlp1, _, _⟩ := T1.out k1 hk1n
              obtain ⟨b', o', u, e2, _, hu, hcu1⟩ := RA.out.at_ (k := k1) hk1n
              injection e2 with e2; injection e2 with e3 e4; subst e3 e4
              rw [vals, List.getElem?_map, hza1] at hu; injection hu with hu; subst hu
              obtain ⟨b', o', x', e2, _, hx', hldl1⟩ := R0.out.stamp (k := p1) hp1
              injection e2 with e2; injection e2 with e3 e4; subst e3 e4
              rw [hlp1] at hx'; injection hx' with hx'; subst hx'
              have KD : Hid (∀ W, Below w3.heap.size w3 W → W.cell? ⟨ba, oa + k, none⟩ = some (.int .i64 (p : Int)) ∧ W.cell? ⟨bz, ob + k, none⟩ = some (.int .i64 (q : Int)) ∧ W.cell? ⟨bl, ol + p * 3, none⟩ = some (.int .i64 x.t) ∧ W.cell? ⟨bl, ol + p * 3 + 1, none⟩ = some (.int .i64 x.d) ∧ W.cell? ⟨bl, ol + p * 3 + 2, none⟩ = some (.int .i64 x.q) ∧ W.cell? ⟨bk, ok + q * 3, none⟩ = some (.int .i64 x.t) ∧ W.cell? ⟨bk, ok + q * 3 + 1, none⟩ = some (.int .i64 x.d) ∧ W.cell? ⟨bk, ok + q * 3 + 2, none⟩ = some (.int .i64 x.q) ∧ W.cell? ⟨ba, oa + k1, none⟩ = some (.int .i64 (p1 : Int)) ∧ W.cell? ⟨bl, ol + p1 * 3, none⟩ = some (.int .i64 y.t) ∧ W.cell? ⟨bl, ol + p1 * 3 + 1, none⟩ = some (.int .i64 y.d) ∧ W.cell? ⟨bl, ol + p1 * 3 + 2, none⟩ = some (.int .i64 y.q)) := by
                intro W hW
                obtain ⟨a1, a2, a3, a4, a5, a6, a7, a8⟩ := KC.out W hW
                obtain ⟨a9, a10, a11⟩ := hldl1 W hW
                exact ⟨a1, a2, a3, a4, a5, a6, a7, a8, (hW.cell (p := ⟨ba, oa + k1, none⟩) hba).trans hcu1, a9, a10, a11⟩
              have TW := T2.out k1 p1 p y x (by have := hk1.out; omega) hza1 (by rw [← hk1.out]; exact hza) hlp1 hlp
              have LS : Hid (∀ W, Calls Try.prog 12 #[.agg #[.int .i64 x.t, .int .i64 x.d, .int .i64 x.q], .agg #[.int .i64 y.t, .int .i64 y.d, .int .i64 y.q]] W fun e w' => e = .returned (.bool false) ∧ Below W.heap.size W w') := by
                intro W
                have := clkLess_any x y W
                rwa [TW.1] at this
              obtain ⟨s, EQ2, hsf⟩ : ∃ s : Bool, (∀ W, (Op.equalIn 10000 23 (.agg #[.int .i64 x.t, .int .i64 x.d, .int .i64 x.q]) (.agg #[.int .i64 y.t, .int .i64 y.d, .int .i64 y.q])).run Try.prog W = .ok s W) ∧ Hid (s = true → p1 < p) :=
                ⟨decide (x = y), fun W => run_equalIn_stamp _ _ _ _ _ _ W, fun h => TW.2 (by simpa using (of_decide_eq_true h).symm)⟩
              have q1 : (0 : Int) ≤ (k : Int) - 1 := by omega
              have q2 : (k : Int) - 1 < (n : Int) := by omega
              have q3 : ((k : Int) - 1).toNat = k1 := by have := hk1.out; omega
              have q4 : IntKind.i64.wrap ((k : Int) - 1) = (k : Int) - 1 := wrap_is (by omega)
              have q8 : (1 : Int) ≤ (k : Int) := by omega
              have q9 : (p1 : Int) < (n : Int) := by omega
              clear hk0 hp hp1 hza1 hlp1 hcu hcu1 hldl hldl1 hba TW hk1n hlt hza hlp
              go_wp2_with fail
              go_quiet (fail)
              go_wp2_with fail
              all_goals
                have BW3 := BW2.out
                cases s with
                | true =>
                  have hpp : decide ((p : Int) < (p1 : Int)) = false := decide_eq_false (by have := hsf.out rfl; omega)
                  have hpp2 : ¬ (p : Int) < (p1 : Int) := by have := hsf.out rfl; omega
                  have hpp3 : ¬ p < p1 := by have := hsf.out rfl; omega
                  refine wp_region_noPanic ?_
                  refine wp_region_held_drew (S := (fun W => Below w3.heap.size w3 W ∧ Hid (Met W w3.heap.size n za (k + 1)) ∧ W.cell? ⟨ba, oa + k, none⟩ = some (.int .i64 (p : Int)) ∧ W.cell? ⟨bz, ob + k, none⟩ = some (.int .i64 (q : Int)) ∧ W.cell? ⟨bl, ol + p * 3, none⟩ = some (.int .i64 x.t) ∧ W.cell? ⟨bl, ol + p * 3 + 1, none⟩ = some (.int .i64 x.d) ∧ W.cell? ⟨bl, ol + p * 3 + 2, none⟩ = some (.int .i64 x.q) ∧ W.cell? ⟨bk, ok + q * 3, none⟩ = some (.int .i64 x.t) ∧ W.cell? ⟨bk, ok + q * 3 + 1, none⟩ = some (.int .i64 x.d) ∧ W.cell? ⟨bk, ok + q * 3 + 2, none⟩ = some (.int .i64 x.q) ∧ W.cell? ⟨ba, oa + k1, none⟩ = some (.int .i64 (p1 : Int)) ∧ W.cell? ⟨bl, ol + p1 * 3, none⟩ = some (.int .i64 y.t) ∧ W.cell? ⟨bl, ol + p1 * 3 + 1, none⟩ = some (.int .i64 y.d) ∧ W.cell? ⟨bl, ol + p1 * 3 + 2, none⟩ = some (.int .i64 y.q))) (by kernel_rfl) ?_ (fun hHeld => ?_)
                  · exact ⟨(BW2.out _).drew, HM2.out _, KD.out _ (BW2.out _).drew⟩
                  refine wpAnyH_one (by kernel_rfl) (fun _ _ _ _ _ h => h) (by assumption) 0 45 (some 116) ?_ _ (by rfl) (by rfl) (by kernel_rfl) (by rfl) ?_ ?_
                  rotate_left 1
                  · intro W hSw
                    (try dsimp only at hSw)
                    go_simp
                    (try with_reducible rfl)
                  (try simp only [Act.put, List.setIfInBounds_toArray, List.set_cons_zero, List.set_cons_succ])
                  refine wpAnyH_one (by kernel_rfl) (fun _ _ _ _ _ h => h) (by assumption) 1 44 (some 117) ?_ _ (by rfl) (by rfl) (by kernel_rfl) (by rfl) ?_ ?_
                  rotate_left 1
                  · intro W hSw
                    (try dsimp only at hSw)
                    go_simp
                    (try with_reducible rfl)
                  (try simp only [Act.put, List.setIfInBounds_toArray, List.set_cons_zero, List.set_cons_succ])
                  refine wpAnyH_one (by kernel_rfl) (fun _ _ _ _ _ h => h) (by assumption) 2 43 (some 118) ?_ _ (by rfl) (by rfl) (by kernel_rfl) (by rfl) ?_ ?_
                  rotate_left 1
                  · intro W hSw
                    (try dsimp only at hSw)
                    go_simp
                    (try with_reducible rfl)
                  (try simp only [Act.put, List.setIfInBounds_toArray, List.set_cons_zero, List.set_cons_succ])
                  refine wpAnyH_one (by kernel_rfl) (fun _ _ _ _ _ h => h) (by assumption) 3 42 (some 119) ?_ _ (by rfl) (by rfl) (by kernel_rfl) (by rfl) ?_ ?_
                  rotate_left 1
                  · intro W hSw
                    (try dsimp only at hSw)
                    go_simp
                    (try with_reducible rfl)
                  (try simp only [Act.put, List.setIfInBounds_toArray, List.set_cons_zero, List.set_cons_succ])
                  refine wpAnyH_one (by kernel_rfl) (fun _ _ _ _ _ h => h) (by assumption) 4 41 (some 120) ?_ _ (by rfl) (by rfl) (by kernel_rfl) (by rfl) ?_ ?_
                  rotate_left 1
                  · intro W hSw
                    (try dsimp only at hSw)
                    go_simp
                    (try with_reducible rfl)
                  (try simp only [Act.put, List.setIfInBounds_toArray, List.set_cons_zero, List.set_cons_succ])
                  refine wpAnyH_one (by kernel_rfl) (fun _ _ _ _ _ h => h) (by assumption) 5 40 (some 121) ?_ _ (by rfl) (by rfl) (by kernel_rfl) (by rfl) ?_ ?_
                  rotate_left 1
                  · intro W hSw
                    (try dsimp only at hSw)
                    go_simp
                    (try with_reducible rfl)
                  (try simp only [Act.put, List.setIfInBounds_toArray, List.set_cons_zero, List.set_cons_succ])
                  refine wpAnyH_one (by kernel_rfl) (fun _ _ _ _ _ h => h) (by assumption) 6 39 (some 122) ?_ _ (by rfl) (by rfl) (by kernel_rfl) (by rfl) ?_ ?_
                  rotate_left 1
                  · intro W hSw
                    (try dsimp only at hSw)
                    go_simp
                    (try with_reducible rfl)
                  (try simp only [Act.put, List.setIfInBounds_toArray, List.set_cons_zero, List.set_cons_succ])
                  refine wpAnyH_one (by kernel_rfl) (fun _ _ _ _ _ h => h) (by assumption) 7 38 (some 123) ?_ _ (by rfl) (by rfl) (by kernel_rfl) (by rfl) ?_ ?_
                  rotate_left 1
                  · intro W hSw
                    (try dsimp only at hSw)
                    go_simp
                    (try with_reducible rfl)
                  (try simp only [Act.put, List.setIfInBounds_toArray, List.set_cons_zero, List.set_cons_succ])
                  refine wpAnyH_one (by kernel_rfl) (fun _ _ _ _ _ h => h) (by assumption) 8 37 (some 124) ?_ _ (by rfl) (by rfl) (by kernel_rfl) (by rfl) ?_ ?_
                  rotate_left 1
                  · intro W hSw
                    (try dsimp only at hSw)
                    go_simp
                    (try with_reducible rfl)
                  (try simp only [Act.put, List.setIfInBounds_toArray, List.set_cons_zero, List.set_cons_succ])
                  refine wpAnyH_one (by kernel_rfl) (fun _ _ _ _ _ h => h) (by assumption) 9 36 (some 125) ?_ _ (by rfl) (by rfl) (by kernel_rfl) (by rfl) ?_ ?_
                  rotate_left 1
                  · intro W hSw
                    (try dsimp only at hSw)
                    go_simp
                    (try with_reducible rfl)
                  (try simp only [Act.put, List.setIfInBounds_toArray, List.set_cons_zero, List.set_cons_succ])
                  refine wpAnyH_one (by kernel_rfl) (fun _ _ _ _ _ h => h) (by assumption) 10 35 (some 126) ?_ _ (by rfl) (by rfl) (by kernel_rfl) (by rfl) ?_ ?_
                  rotate_left 1
                  · intro W hSw
                    (try dsimp only at hSw)
                    go_simp
                    (try with_reducible rfl)
                  (try simp only [Act.put, List.setIfInBounds_toArray, List.set_cons_zero, List.set_cons_succ])
                  refine wpAnyH_one (by kernel_rfl) (fun _ _ _ _ _ h => h) (by assumption) 11 34 (some 127) ?_ _ (by rfl) (by rfl) (by kernel_rfl) (by rfl) ?_ ?_
                  rotate_left 1
                  · intro W hSw
                    (try dsimp only at hSw)
                    go_simp
                    (try with_reducible rfl)
                  (try simp only [Act.put, List.setIfInBounds_toArray, List.set_cons_zero, List.set_cons_succ])
                  refine wpAnyH_one (by kernel_rfl) (fun _ _ _ _ _ h => h) (by assumption) 12 33 (some 128) ?_ _ (by rfl) (by rfl) (by kernel_rfl) (by rfl) ?_ ?_
                  rotate_left 1
                  · intro W hSw
                    (try dsimp only at hSw)
                    go_simp
                    (try with_reducible rfl)
                  (try simp only [Act.put, List.setIfInBounds_toArray, List.set_cons_zero, List.set_cons_succ])
                  refine wpAnyH_one (by kernel_rfl) (fun _ _ _ _ _ h => h) (by assumption) 13 32 (some 129) ?_ _ (by rfl) (by rfl) (by kernel_rfl) (by rfl) ?_ ?_
                  rotate_left 1
                  · intro W hSw
                    (try dsimp only at hSw)
                    go_simp
                    (try with_reducible rfl)
                  (try simp only [Act.put, List.setIfInBounds_toArray, List.set_cons_zero, List.set_cons_succ])
                  refine wpAnyH_one (by kernel_rfl) (fun _ _ _ _ _ h => h) (by assumption) 14 31 (some 130) ?_ _ (by rfl) (by rfl) (by kernel_rfl) (by rfl) ?_ ?_
                  rotate_left 1
                  · intro W hSw
                    (try dsimp only at hSw)
                    go_simp
                    (try with_reducible rfl)
                  (try simp only [Act.put, List.setIfInBounds_toArray, List.set_cons_zero, List.set_cons_succ])
                  refine wpAnyH_ready (rs := [15]) (by kernel_rfl) (by simp) (AllReadyH.cons rfl (fun K hK => ?_) AllReadyH.nil)
                  go_simp
                  refine (LS.out _).mono ?_
                  rintro e wx ⟨rfl, bb⟩
                  (try go_wp2_with fail)
                  refine hK.out _ _ ?_ (fun hHeld => ?_)
                  · (try dsimp only)
                    exact ⟨below_then hHeld.1 bb, hHeld.2.1.out.below bb, KD.out _ (below_then hHeld.1 bb)⟩
                  clear hK K
                  (try simp only [Act.put, List.setIfInBounds_toArray, List.set_cons_zero, List.set_cons_succ])
                  refine wpAnyH_one (by kernel_rfl) (fun _ _ _ _ _ h => h) (by assumption) 16 29 (some 132) ?_ _ (by rfl) (by rfl) (by kernel_rfl) (by rfl) ?_ ?_
                  rotate_left 1
                  · intro W hSw
                    (try dsimp only at hSw)
                    go_simp
                    (try with_reducible rfl)
                  (try simp only [Act.put, List.setIfInBounds_toArray, List.set_cons_zero, List.set_cons_succ])
                  refine wpAnyH_one (by kernel_rfl) (fun _ _ _ _ _ h => h) (by assumption) 17 28 (some 133) ?_ _ (by rfl) (by rfl) (by kernel_rfl) (by rfl) ?_ ?_
                  rotate_left 1
                  · intro W hSw
                    (try dsimp only at hSw)
                    go_simp
                    (try with_reducible rfl)
                  (try simp only [Act.put, List.setIfInBounds_toArray, List.set_cons_zero, List.set_cons_succ])
                  refine wpAnyH_one (by kernel_rfl) (fun _ _ _ _ _ h => h) (by assumption) 18 27 (some 134) ?_ _ (by rfl) (by rfl) (by kernel_rfl) (by rfl) ?_ ?_
                  rotate_left 1
                  · intro W hSw
                    (try dsimp only at hSw)
                    go_simp
                    (try with_reducible rfl)
                  (try simp only [Act.put, List.setIfInBounds_toArray, List.set_cons_zero, List.set_cons_succ])
                  refine wpAnyH_one (by kernel_rfl) (fun _ _ _ _ _ h => h) (by assumption) 19 26 (some 135) ?_ _ (by rfl) (by rfl) (by kernel_rfl) (by rfl) ?_ ?_
                  rotate_left 1
                  · intro W hSw
                    (try dsimp only at hSw)
                    go_simp
                    (try with_reducible rfl)
                  (try simp only [Act.put, List.setIfInBounds_toArray, List.set_cons_zero, List.set_cons_succ])
                  refine wpAnyH_one (by kernel_rfl) (fun _ _ _ _ _ h => h) (by assumption) 20 25 (some 136) ?_ _ (by rfl) (by rfl) (by kernel_rfl) (by rfl) ?_ ?_
                  rotate_left 1
                  · intro W hSw
                    (try dsimp only at hSw)
                    go_simp
                    (try with_reducible rfl)
                  (try simp only [Act.put, List.setIfInBounds_toArray, List.set_cons_zero, List.set_cons_succ])
                  refine wpAnyH_one (by kernel_rfl) (fun _ _ _ _ _ h => h) (by assumption) 21 24 (some 137) ?_ _ (by rfl) (by rfl) (by kernel_rfl) (by rfl) ?_ ?_
                  rotate_left 1
                  · intro W hSw
                    (try dsimp only at hSw)
                    go_simp
                    (try with_reducible rfl)
                  (try simp only [Act.put, List.setIfInBounds_toArray, List.set_cons_zero, List.set_cons_succ])
                  refine wpAnyH_one (by kernel_rfl) (fun _ _ _ _ _ h => h) (by assumption) 22 23 (some 138) ?_ _ (by rfl) (by rfl) (by kernel_rfl) (by rfl) ?_ ?_
                  rotate_left 1
                  · intro W hSw
                    (try dsimp only at hSw)
                    go_simp
                    (try with_reducible rfl)
                  (try simp only [Act.put, List.setIfInBounds_toArray, List.set_cons_zero, List.set_cons_succ])
                  refine wpAnyH_one (by kernel_rfl) (fun _ _ _ _ _ h => h) (by assumption) 23 22 (some 139) ?_ _ (by rfl) (by rfl) (by kernel_rfl) (by rfl) ?_ ?_
                  rotate_left 1
                  · intro W hSw
                    (try dsimp only at hSw)
                    go_simp
                    (try with_reducible rfl)
                  (try simp only [Act.put, List.setIfInBounds_toArray, List.set_cons_zero, List.set_cons_succ])
                  refine wpAnyH_one (by kernel_rfl) (fun _ _ _ _ _ h => h) (by assumption) 24 21 (some 140) ?_ _ (by rfl) (by rfl) (by kernel_rfl) (by rfl) ?_ ?_
                  rotate_left 1
                  · intro W hSw
                    (try dsimp only at hSw)
                    go_simp
                    (try with_reducible rfl)
                  (try simp only [Act.put, List.setIfInBounds_toArray, List.set_cons_zero, List.set_cons_succ])
                  refine wpAnyH_one (by kernel_rfl) (fun _ _ _ _ _ h => h) (by assumption) 25 20 (some 141) ?_ _ (by rfl) (by rfl) (by kernel_rfl) (by rfl) ?_ ?_
                  rotate_left 1
                  · intro W hSw
                    (try dsimp only at hSw)
                    go_simp
                    (try with_reducible rfl)
                  (try simp only [Act.put, List.setIfInBounds_toArray, List.set_cons_zero, List.set_cons_succ])
                  refine wpAnyH_one (by kernel_rfl) (fun _ _ _ _ _ h => h) (by assumption) 26 19 (some 142) ?_ _ (by rfl) (by rfl) (by kernel_rfl) (by rfl) ?_ ?_
                  rotate_left 1
                  · intro W hSw
                    (try dsimp only at hSw)
                    go_simp
                    (try with_reducible rfl)
                  (try simp only [Act.put, List.setIfInBounds_toArray, List.set_cons_zero, List.set_cons_succ])
                  refine wpAnyH_one (by kernel_rfl) (fun _ _ _ _ _ h => h) (by assumption) 27 18 (some 143) ?_ _ (by rfl) (by rfl) (by kernel_rfl) (by rfl) ?_ ?_
                  rotate_left 1
                  · intro W hSw
                    (try dsimp only at hSw)
                    go_simp
                    (try with_reducible rfl)
                  (try simp only [Act.put, List.setIfInBounds_toArray, List.set_cons_zero, List.set_cons_succ])
                  refine wpAnyH_one (by kernel_rfl) (fun _ _ _ _ _ h => h) (by assumption) 28 17 (some 144) ?_ _ (by rfl) (by rfl) (by kernel_rfl) (by rfl) ?_ ?_
                  rotate_left 1
                  · intro W hSw
                    (try dsimp only at hSw)
                    go_simp
                    (try with_reducible rfl)
                  (try simp only [Act.put, List.setIfInBounds_toArray, List.set_cons_zero, List.set_cons_succ])
                  refine wpAnyH_one (by kernel_rfl) (fun _ _ _ _ _ h => h) (by assumption) 29 16 (some 145) ?_ _ (by rfl) (by rfl) (by kernel_rfl) (by rfl) ?_ ?_
                  rotate_left 1
                  · intro W hSw
                    (try dsimp only at hSw)
                    go_simp
                    (try with_reducible rfl)
                  (try simp only [Act.put, List.setIfInBounds_toArray, List.set_cons_zero, List.set_cons_succ])
                  refine wpAnyH_one (by kernel_rfl) (fun _ _ _ _ _ h => h) (by assumption) 30 15 (some 146) ?_ _ (by rfl) (by rfl) (by kernel_rfl) (by rfl) ?_ ?_
                  rotate_left 1
                  · intro W hSw
                    (try dsimp only at hSw)
                    go_simp
                    (try with_reducible rfl)
                  (try simp only [Act.put, List.setIfInBounds_toArray, List.set_cons_zero, List.set_cons_succ])
                  refine wpAnyH_one (by kernel_rfl) (fun _ _ _ _ _ h => h) (by assumption) 31 14 (some 147) ?_ _ (by rfl) (by rfl) (by kernel_rfl) (by rfl) ?_ ?_
                  rotate_left 1
                  · intro W hSw
                    (try dsimp only at hSw)
                    go_simp
                    (try with_reducible rfl)
                  (try simp only [Act.put, List.setIfInBounds_toArray, List.set_cons_zero, List.set_cons_succ])
                  refine wpAnyH_one (by kernel_rfl) (fun _ _ _ _ _ h => h) (by assumption) 32 13 (some 148) ?_ _ (by rfl) (by rfl) (by kernel_rfl) (by rfl) ?_ ?_
                  rotate_left 1
                  · intro W hSw
                    (try dsimp only at hSw)
                    go_simp
                    (try with_reducible rfl)
                  (try simp only [Act.put, List.setIfInBounds_toArray, List.set_cons_zero, List.set_cons_succ])
                  refine wpAnyH_one (by kernel_rfl) (fun _ _ _ _ _ h => h) (by assumption) 33 12 (some 149) ?_ _ (by rfl) (by rfl) (by kernel_rfl) (by rfl) ?_ ?_
                  rotate_left 1
                  · intro W hSw
                    (try dsimp only at hSw)
                    go_simp
                    (try with_reducible rfl)
                  (try simp only [Act.put, List.setIfInBounds_toArray, List.set_cons_zero, List.set_cons_succ])
                  refine wpAnyH_one (by kernel_rfl) (fun _ _ _ _ _ h => h) (by assumption) 34 11 (some 150) ?_ _ (by rfl) (by rfl) (by kernel_rfl) (by rfl) ?_ ?_
                  rotate_left 1
                  · intro W hSw
                    (try dsimp only at hSw)
                    go_simp
                    (try with_reducible rfl)
                  (try simp only [Act.put, List.setIfInBounds_toArray, List.set_cons_zero, List.set_cons_succ])
                  refine wpAnyH_one (by kernel_rfl) (fun _ _ _ _ _ h => h) (by assumption) 35 10 (some 151) ?_ _ (by rfl) (by rfl) (by kernel_rfl) (by rfl) ?_ ?_
                  rotate_left 1
                  · intro W hSw
                    (try dsimp only at hSw)
                    go_simp
                    (try with_reducible rfl)
                  (try simp only [Act.put, List.setIfInBounds_toArray, List.set_cons_zero, List.set_cons_succ])
                  refine wpAnyH_one (by kernel_rfl) (fun _ _ _ _ _ h => h) (by assumption) 36 9 (some 152) ?_ _ (by rfl) (by rfl) (by kernel_rfl) (by rfl) ?_ ?_
                  rotate_left 1
                  · intro W hSw
                    (try dsimp only at hSw)
                    go_simp
                    (try with_reducible rfl)
                  (try simp only [Act.put, List.setIfInBounds_toArray, List.set_cons_zero, List.set_cons_succ])
                  refine wpAnyH_one (by kernel_rfl) (fun _ _ _ _ _ h => h) (by assumption) 37 8 (some 153) ?_ _ (by rfl) (by rfl) (by kernel_rfl) (by rfl) ?_ ?_
                  rotate_left 1
                  · intro W hSw
                    (try dsimp only at hSw)
                    go_simp
                    (try with_reducible rfl)
                  (try simp only [Act.put, List.setIfInBounds_toArray, List.set_cons_zero, List.set_cons_succ])
                  refine wpAnyH_one (by kernel_rfl) (fun _ _ _ _ _ h => h) (by assumption) 38 7 (some 154) ?_ _ (by rfl) (by rfl) (by kernel_rfl) (by rfl) ?_ ?_
                  rotate_left 1
                  · intro W hSw
                    (try dsimp only at hSw)
                    go_simp
                    (try with_reducible rfl)
                  (try simp only [Act.put, List.setIfInBounds_toArray, List.set_cons_zero, List.set_cons_succ])
                  refine wpAnyH_one (by kernel_rfl) (fun _ _ _ _ _ h => h) (by assumption) 39 6 (some 155) ?_ _ (by rfl) (by rfl) (by kernel_rfl) (by rfl) ?_ ?_
                  rotate_left 1
                  · intro W hSw
                    (try dsimp only at hSw)
                    go_simp
                    (try with_reducible rfl)
                  (try simp only [Act.put, List.setIfInBounds_toArray, List.set_cons_zero, List.set_cons_succ])
                  refine wpAnyH_one (by kernel_rfl) (fun _ _ _ _ _ h => h) (by assumption) 40 5 (some 156) ?_ _ (by rfl) (by rfl) (by kernel_rfl) (by rfl) ?_ ?_
                  rotate_left 1
                  · intro W hSw
                    (try dsimp only at hSw)
                    go_simp
                    (try with_reducible rfl)
                  (try simp only [Act.put, List.setIfInBounds_toArray, List.set_cons_zero, List.set_cons_succ])
                  refine wpAnyH_one (by kernel_rfl) (fun _ _ _ _ _ h => h) (by assumption) 41 4 (some 157) ?_ _ (by rfl) (by rfl) (by kernel_rfl) (by rfl) ?_ ?_
                  rotate_left 1
                  · intro W hSw
                    (try dsimp only at hSw)
                    go_simp
                    (try with_reducible rfl)
                  (try simp only [Act.put, List.setIfInBounds_toArray, List.set_cons_zero, List.set_cons_succ])
                  refine wpAnyH_one (by kernel_rfl) (fun _ _ _ _ _ h => h) (by assumption) 42 3 (some 158) ?_ _ (by rfl) (by rfl) (by kernel_rfl) (by rfl) ?_ ?_
                  rotate_left 1
                  · intro W hSw
                    (try dsimp only at hSw)
                    go_simp
                    (try with_reducible rfl)
                  (try simp only [Act.put, List.setIfInBounds_toArray, List.set_cons_zero, List.set_cons_succ])
                  refine wpAnyH_one (by kernel_rfl) (fun _ _ _ _ _ h => h) (by assumption) 43 2 (some 159) ?_ _ (by rfl) (by rfl) (by kernel_rfl) (by rfl) ?_ ?_
                  rotate_left 1
                  · intro W hSw
                    (try dsimp only at hSw)
                    go_simp
                    (try with_reducible rfl)
                  (try simp only [Act.put, List.setIfInBounds_toArray, List.set_cons_zero, List.set_cons_succ])
                  refine wpAnyH_one (by kernel_rfl) (fun _ _ _ _ _ h => h) (by assumption) 44 1 (some 160) ?_ _ (by rfl) (by rfl) (by kernel_rfl) (by rfl) ?_ ?_
                  rotate_left 1
                  · intro W hSw
                    (try dsimp only at hSw)
                    go_simp
                    (try with_reducible rfl)
                  (try simp only [Act.put, List.setIfInBounds_toArray, List.set_cons_zero, List.set_cons_succ])
                  refine wpAnyH_one (by kernel_rfl) (fun _ _ _ _ _ h => h) (by assumption) 45 0 (some 161) ?_ _ (by rfl) (by rfl) (by kernel_rfl) (by rfl) ?_ ?_
                  rotate_left 1
                  · intro W hSw
                    (try dsimp only at hSw)
                    go_simp
                    (try with_reducible rfl)
                  (try simp only [Act.put, List.setIfInBounds_toArray, List.set_cons_zero, List.set_cons_succ])
                  refine wpAnyH_done (by kernel_rfl) ?_ _
                  refine NoPanic.normal ?_
                  (try simp only [Act.put, List.setIfInBounds_toArray, List.set_cons_zero, List.set_cons_succ])
                  go_wp2_with fail
                  exact ⟨⟨k + 1, by go_num, by omega, hHeld.2.1, hHeld.1⟩, by simp only [intOf]; omega⟩
                | false =>
                  refine wp_region_noPanic ?_
                  refine wp_region_held_drew (S := (fun W => Below w3.heap.size w3 W ∧ Hid (Met W w3.heap.size n za (k + 1)) ∧ W.cell? ⟨ba, oa + k, none⟩ = some (.int .i64 (p : Int)) ∧ W.cell? ⟨bz, ob + k, none⟩ = some (.int .i64 (q : Int)) ∧ W.cell? ⟨bl, ol + p * 3, none⟩ = some (.int .i64 x.t) ∧ W.cell? ⟨bl, ol + p * 3 + 1, none⟩ = some (.int .i64 x.d) ∧ W.cell? ⟨bl, ol + p * 3 + 2, none⟩ = some (.int .i64 x.q) ∧ W.cell? ⟨bk, ok + q * 3, none⟩ = some (.int .i64 x.t) ∧ W.cell? ⟨bk, ok + q * 3 + 1, none⟩ = some (.int .i64 x.d) ∧ W.cell? ⟨bk, ok + q * 3 + 2, none⟩ = some (.int .i64 x.q) ∧ W.cell? ⟨ba, oa + k1, none⟩ = some (.int .i64 (p1 : Int)) ∧ W.cell? ⟨bl, ol + p1 * 3, none⟩ = some (.int .i64 y.t) ∧ W.cell? ⟨bl, ol + p1 * 3 + 1, none⟩ = some (.int .i64 y.d) ∧ W.cell? ⟨bl, ol + p1 * 3 + 2, none⟩ = some (.int .i64 y.q))) (by kernel_rfl) ?_ (fun hHeld => ?_)
                  · exact ⟨(BW2.out _).drew, HM2.out _, KD.out _ (BW2.out _).drew⟩
                  refine wpAnyH_one (by kernel_rfl) (fun _ _ _ _ _ h => h) (by assumption) 0 45 (some 116) ?_ _ (by rfl) (by rfl) (by kernel_rfl) (by rfl) ?_ ?_
                  rotate_left 1
                  · intro W hSw
                    (try dsimp only at hSw)
                    go_simp
                    (try with_reducible rfl)
                  (try simp only [Act.put, List.setIfInBounds_toArray, List.set_cons_zero, List.set_cons_succ])
                  refine wpAnyH_one (by kernel_rfl) (fun _ _ _ _ _ h => h) (by assumption) 1 44 (some 117) ?_ _ (by rfl) (by rfl) (by kernel_rfl) (by rfl) ?_ ?_
                  rotate_left 1
                  · intro W hSw
                    (try dsimp only at hSw)
                    go_simp
                    (try with_reducible rfl)
                  (try simp only [Act.put, List.setIfInBounds_toArray, List.set_cons_zero, List.set_cons_succ])
                  refine wpAnyH_one (by kernel_rfl) (fun _ _ _ _ _ h => h) (by assumption) 2 43 (some 118) ?_ _ (by rfl) (by rfl) (by kernel_rfl) (by rfl) ?_ ?_
                  rotate_left 1
                  · intro W hSw
                    (try dsimp only at hSw)
                    go_simp
                    (try with_reducible rfl)
                  (try simp only [Act.put, List.setIfInBounds_toArray, List.set_cons_zero, List.set_cons_succ])
                  refine wpAnyH_one (by kernel_rfl) (fun _ _ _ _ _ h => h) (by assumption) 3 42 (some 119) ?_ _ (by rfl) (by rfl) (by kernel_rfl) (by rfl) ?_ ?_
                  rotate_left 1
                  · intro W hSw
                    (try dsimp only at hSw)
                    go_simp
                    (try with_reducible rfl)
                  (try simp only [Act.put, List.setIfInBounds_toArray, List.set_cons_zero, List.set_cons_succ])
                  refine wpAnyH_one (by kernel_rfl) (fun _ _ _ _ _ h => h) (by assumption) 4 41 (some 120) ?_ _ (by rfl) (by rfl) (by kernel_rfl) (by rfl) ?_ ?_
                  rotate_left 1
                  · intro W hSw
                    (try dsimp only at hSw)
                    go_simp
                    (try with_reducible rfl)
                  (try simp only [Act.put, List.setIfInBounds_toArray, List.set_cons_zero, List.set_cons_succ])
                  refine wpAnyH_one (by kernel_rfl) (fun _ _ _ _ _ h => h) (by assumption) 5 40 (some 121) ?_ _ (by rfl) (by rfl) (by kernel_rfl) (by rfl) ?_ ?_
                  rotate_left 1
                  · intro W hSw
                    (try dsimp only at hSw)
                    go_simp
                    (try with_reducible rfl)
                  (try simp only [Act.put, List.setIfInBounds_toArray, List.set_cons_zero, List.set_cons_succ])
                  refine wpAnyH_one (by kernel_rfl) (fun _ _ _ _ _ h => h) (by assumption) 6 39 (some 122) ?_ _ (by rfl) (by rfl) (by kernel_rfl) (by rfl) ?_ ?_
                  rotate_left 1
                  · intro W hSw
                    (try dsimp only at hSw)
                    go_simp
                    (try with_reducible rfl)
                  (try simp only [Act.put, List.setIfInBounds_toArray, List.set_cons_zero, List.set_cons_succ])
                  refine wpAnyH_one (by kernel_rfl) (fun _ _ _ _ _ h => h) (by assumption) 7 38 (some 123) ?_ _ (by rfl) (by rfl) (by kernel_rfl) (by rfl) ?_ ?_
                  rotate_left 1
                  · intro W hSw
                    (try dsimp only at hSw)
                    go_simp
                    (try with_reducible rfl)
                  (try simp only [Act.put, List.setIfInBounds_toArray, List.set_cons_zero, List.set_cons_succ])
                  refine wpAnyH_one (by kernel_rfl) (fun _ _ _ _ _ h => h) (by assumption) 8 37 (some 124) ?_ _ (by rfl) (by rfl) (by kernel_rfl) (by rfl) ?_ ?_
                  rotate_left 1
                  · intro W hSw
                    (try dsimp only at hSw)
                    go_simp
                    (try with_reducible rfl)
                  (try simp only [Act.put, List.setIfInBounds_toArray, List.set_cons_zero, List.set_cons_succ])
                  refine wpAnyH_one (by kernel_rfl) (fun _ _ _ _ _ h => h) (by assumption) 9 36 (some 125) ?_ _ (by rfl) (by rfl) (by kernel_rfl) (by rfl) ?_ ?_
                  rotate_left 1
                  · intro W hSw
                    (try dsimp only at hSw)
                    go_simp
                    (try with_reducible rfl)
                  (try simp only [Act.put, List.setIfInBounds_toArray, List.set_cons_zero, List.set_cons_succ])
                  refine wpAnyH_one (by kernel_rfl) (fun _ _ _ _ _ h => h) (by assumption) 10 35 (some 126) ?_ _ (by rfl) (by rfl) (by kernel_rfl) (by rfl) ?_ ?_
                  rotate_left 1
                  · intro W hSw
                    (try dsimp only at hSw)
                    go_simp
                    (try with_reducible rfl)
                  (try simp only [Act.put, List.setIfInBounds_toArray, List.set_cons_zero, List.set_cons_succ])
                  refine wpAnyH_one (by kernel_rfl) (fun _ _ _ _ _ h => h) (by assumption) 11 34 (some 127) ?_ _ (by rfl) (by rfl) (by kernel_rfl) (by rfl) ?_ ?_
                  rotate_left 1
                  · intro W hSw
                    (try dsimp only at hSw)
                    go_simp
                    (try with_reducible rfl)
                  (try simp only [Act.put, List.setIfInBounds_toArray, List.set_cons_zero, List.set_cons_succ])
                  refine wpAnyH_one (by kernel_rfl) (fun _ _ _ _ _ h => h) (by assumption) 12 33 (some 128) ?_ _ (by rfl) (by rfl) (by kernel_rfl) (by rfl) ?_ ?_
                  rotate_left 1
                  · intro W hSw
                    (try dsimp only at hSw)
                    go_simp
                    (try with_reducible rfl)
                  (try simp only [Act.put, List.setIfInBounds_toArray, List.set_cons_zero, List.set_cons_succ])
                  refine wpAnyH_one (by kernel_rfl) (fun _ _ _ _ _ h => h) (by assumption) 13 32 (some 129) ?_ _ (by rfl) (by rfl) (by kernel_rfl) (by rfl) ?_ ?_
                  rotate_left 1
                  · intro W hSw
                    (try dsimp only at hSw)
                    go_simp
                    (try with_reducible rfl)
                  (try simp only [Act.put, List.setIfInBounds_toArray, List.set_cons_zero, List.set_cons_succ])
                  refine wpAnyH_one (by kernel_rfl) (fun _ _ _ _ _ h => h) (by assumption) 14 31 (some 130) ?_ _ (by rfl) (by rfl) (by kernel_rfl) (by rfl) ?_ ?_
                  rotate_left 1
                  · intro W hSw
                    (try dsimp only at hSw)
                    go_simp
                    (try with_reducible rfl)
                  (try simp only [Act.put, List.setIfInBounds_toArray, List.set_cons_zero, List.set_cons_succ])
                  refine wpAnyH_ready (rs := [15]) (by kernel_rfl) (by simp) (AllReadyH.cons rfl (fun K hK => ?_) AllReadyH.nil)
                  go_simp
                  refine (LS.out _).mono ?_
                  rintro e wx ⟨rfl, bb⟩
                  (try go_wp2_with fail)
                  refine hK.out _ _ ?_ (fun hHeld => ?_)
                  · (try dsimp only)
                    exact ⟨below_then hHeld.1 bb, hHeld.2.1.out.below bb, KD.out _ (below_then hHeld.1 bb)⟩
                  clear hK K
                  (try simp only [Act.put, List.setIfInBounds_toArray, List.set_cons_zero, List.set_cons_succ])
                  refine wpAnyH_one (by kernel_rfl) (fun _ _ _ _ _ h => h) (by assumption) 16 29 (some 132) ?_ _ (by rfl) (by rfl) (by kernel_rfl) (by rfl) ?_ ?_
                  rotate_left 1
                  · intro W hSw
                    (try dsimp only at hSw)
                    go_simp
                    (try with_reducible rfl)
                  (try simp only [Act.put, List.setIfInBounds_toArray, List.set_cons_zero, List.set_cons_succ])
                  refine wpAnyH_one (by kernel_rfl) (fun _ _ _ _ _ h => h) (by assumption) 17 28 (some 133) ?_ _ (by rfl) (by rfl) (by kernel_rfl) (by rfl) ?_ ?_
                  rotate_left 1
                  · intro W hSw
                    (try dsimp only at hSw)
                    go_simp
                    (try with_reducible rfl)
                  (try simp only [Act.put, List.setIfInBounds_toArray, List.set_cons_zero, List.set_cons_succ])
                  refine wpAnyH_one (by kernel_rfl) (fun _ _ _ _ _ h => h) (by assumption) 18 27 (some 134) ?_ _ (by rfl) (by rfl) (by kernel_rfl) (by rfl) ?_ ?_
                  rotate_left 1
                  · intro W hSw
                    (try dsimp only at hSw)
                    go_simp
                    (try with_reducible rfl)
                  (try simp only [Act.put, List.setIfInBounds_toArray, List.set_cons_zero, List.set_cons_succ])
                  refine wpAnyH_one (by kernel_rfl) (fun _ _ _ _ _ h => h) (by assumption) 19 26 (some 135) ?_ _ (by rfl) (by rfl) (by kernel_rfl) (by rfl) ?_ ?_
                  rotate_left 1
                  · intro W hSw
                    (try dsimp only at hSw)
                    go_simp
                    (try with_reducible rfl)
                  (try simp only [Act.put, List.setIfInBounds_toArray, List.set_cons_zero, List.set_cons_succ])
                  refine wpAnyH_one (by kernel_rfl) (fun _ _ _ _ _ h => h) (by assumption) 20 25 (some 136) ?_ _ (by rfl) (by rfl) (by kernel_rfl) (by rfl) ?_ ?_
                  rotate_left 1
                  · intro W hSw
                    (try dsimp only at hSw)
                    go_simp
                    (try with_reducible rfl)
                  (try simp only [Act.put, List.setIfInBounds_toArray, List.set_cons_zero, List.set_cons_succ])
                  refine wpAnyH_one (by kernel_rfl) (fun _ _ _ _ _ h => h) (by assumption) 21 24 (some 137) ?_ _ (by rfl) (by rfl) (by kernel_rfl) (by rfl) ?_ ?_
                  rotate_left 1
                  · intro W hSw
                    (try dsimp only at hSw)
                    go_simp
                    (try with_reducible rfl)
                  (try simp only [Act.put, List.setIfInBounds_toArray, List.set_cons_zero, List.set_cons_succ])
                  refine wpAnyH_one (by kernel_rfl) (fun _ _ _ _ _ h => h) (by assumption) 22 23 (some 138) ?_ _ (by rfl) (by rfl) (by kernel_rfl) (by rfl) ?_ ?_
                  rotate_left 1
                  · intro W hSw
                    (try dsimp only at hSw)
                    go_simp
                    (try with_reducible rfl)
                  (try simp only [Act.put, List.setIfInBounds_toArray, List.set_cons_zero, List.set_cons_succ])
                  refine wpAnyH_one (by kernel_rfl) (fun _ _ _ _ _ h => h) (by assumption) 23 22 (some 139) ?_ _ (by rfl) (by rfl) (by kernel_rfl) (by rfl) ?_ ?_
                  rotate_left 1
                  · intro W hSw
                    (try dsimp only at hSw)
                    go_simp
                    (try with_reducible rfl)
                  (try simp only [Act.put, List.setIfInBounds_toArray, List.set_cons_zero, List.set_cons_succ])
                  refine wpAnyH_one (by kernel_rfl) (fun _ _ _ _ _ h => h) (by assumption) 24 21 (some 140) ?_ _ (by rfl) (by rfl) (by kernel_rfl) (by rfl) ?_ ?_
                  rotate_left 1
                  · intro W hSw
                    (try dsimp only at hSw)
                    go_simp
                    (try with_reducible rfl)
                  (try simp only [Act.put, List.setIfInBounds_toArray, List.set_cons_zero, List.set_cons_succ])
                  refine wpAnyH_one (by kernel_rfl) (fun _ _ _ _ _ h => h) (by assumption) 25 20 (some 141) ?_ _ (by rfl) (by rfl) (by kernel_rfl) (by rfl) ?_ ?_
                  rotate_left 1
                  · intro W hSw
                    (try dsimp only at hSw)
                    go_simp
                    (try with_reducible rfl)
                  (try simp only [Act.put, List.setIfInBounds_toArray, List.set_cons_zero, List.set_cons_succ])
                  refine wpAnyH_one (by kernel_rfl) (fun _ _ _ _ _ h => h) (by assumption) 26 19 (some 142) ?_ _ (by rfl) (by rfl) (by kernel_rfl) (by rfl) ?_ ?_
                  rotate_left 1
                  · intro W hSw
                    (try dsimp only at hSw)
                    go_simp
                    (try with_reducible rfl)
                  (try simp only [Act.put, List.setIfInBounds_toArray, List.set_cons_zero, List.set_cons_succ])
                  refine wpAnyH_one (by kernel_rfl) (fun _ _ _ _ _ h => h) (by assumption) 27 18 (some 143) ?_ _ (by rfl) (by rfl) (by kernel_rfl) (by rfl) ?_ ?_
                  rotate_left 1
                  · intro W hSw
                    (try dsimp only at hSw)
                    go_simp
                    (try with_reducible rfl)
                  (try simp only [Act.put, List.setIfInBounds_toArray, List.set_cons_zero, List.set_cons_succ])
                  refine wpAnyH_one (by kernel_rfl) (fun _ _ _ _ _ h => h) (by assumption) 28 17 (some 144) ?_ _ (by rfl) (by rfl) (by kernel_rfl) (by rfl) ?_ ?_
                  rotate_left 1
                  · intro W hSw
                    (try dsimp only at hSw)
                    go_simp
                    (try with_reducible rfl)
                  (try simp only [Act.put, List.setIfInBounds_toArray, List.set_cons_zero, List.set_cons_succ])
                  refine wpAnyH_one (by kernel_rfl) (fun _ _ _ _ _ h => h) (by assumption) 29 16 (some 145) ?_ _ (by rfl) (by rfl) (by kernel_rfl) (by rfl) ?_ ?_
                  rotate_left 1
                  · intro W hSw
                    (try dsimp only at hSw)
                    go_simp
                    (try with_reducible rfl)
                  (try simp only [Act.put, List.setIfInBounds_toArray, List.set_cons_zero, List.set_cons_succ])
                  refine wpAnyH_one (by kernel_rfl) (fun _ _ _ _ _ h => h) (by assumption) 30 15 (some 146) ?_ _ (by rfl) (by rfl) (by kernel_rfl) (by rfl) ?_ ?_
                  rotate_left 1
                  · intro W hSw
                    (try dsimp only at hSw)
                    go_simp
                    (try with_reducible rfl)
                  (try simp only [Act.put, List.setIfInBounds_toArray, List.set_cons_zero, List.set_cons_succ])
                  refine wpAnyH_one (by kernel_rfl) (fun _ _ _ _ _ h => h) (by assumption) 31 14 (some 147) ?_ _ (by rfl) (by rfl) (by kernel_rfl) (by rfl) ?_ ?_
                  rotate_left 1
                  · intro W hSw
                    (try dsimp only at hSw)
                    go_simp
                    (try with_reducible rfl)
                  (try simp only [Act.put, List.setIfInBounds_toArray, List.set_cons_zero, List.set_cons_succ])
                  refine wpAnyH_one (by kernel_rfl) (fun _ _ _ _ _ h => h) (by assumption) 32 13 (some 148) ?_ _ (by rfl) (by rfl) (by kernel_rfl) (by rfl) ?_ ?_
                  rotate_left 1
                  · intro W hSw
                    (try dsimp only at hSw)
                    go_simp
                    (try with_reducible rfl)
                  (try simp only [Act.put, List.setIfInBounds_toArray, List.set_cons_zero, List.set_cons_succ])
                  refine wpAnyH_one (by kernel_rfl) (fun _ _ _ _ _ h => h) (by assumption) 33 12 (some 149) ?_ _ (by rfl) (by rfl) (by kernel_rfl) (by rfl) ?_ ?_
                  rotate_left 1
                  · intro W hSw
                    (try dsimp only at hSw)
                    go_simp
                    (try with_reducible rfl)
                  (try simp only [Act.put, List.setIfInBounds_toArray, List.set_cons_zero, List.set_cons_succ])
                  refine wpAnyH_puts (by kernel_rfl) (fun _ _ _ _ _ h => h) (by assumption) [34, 35, 36, 37, 38, 39, 40, 41, 42, 43] 2 [(some 150, undef), (some 151, undef), (some 152, undef), (some 153, undef), (some 154, undef), (some 155, undef), (some 156, undef), (some 157, undef), (some 158, undef), (some 159, undef)] (by kernel_rfl) (by kernel_rfl) ?_
                  (try simp only [putsOf, Act.put, List.setIfInBounds_toArray, List.set_cons_zero, List.set_cons_succ])
                  refine wpAnyH_puts (by kernel_rfl) (fun _ _ _ _ _ h => h) (by assumption) [44, 45] 0 [(some 160, .bool false), (some 161, .bool false)] (by kernel_rfl) (by kernel_rfl) ?_
                  (try simp only [putsOf, Act.put, List.setIfInBounds_toArray, List.set_cons_zero, List.set_cons_succ])
                  refine wpAnyH_done (by kernel_rfl) ?_ _
                  refine NoPanic.normal ?_
                  (try simp only [Act.put, List.setIfInBounds_toArray, List.set_cons_zero, List.set_cons_succ])
                  go_wp2_with fail
                  exact ⟨⟨k + 1, by go_num, by omega, hHeld.2.1, hHeld.1⟩, by simp only [intOf]; omega⟩
          · have hlz : ¬ (k : Int) < (n : Int) := by omega
            have B5 := below_then B3 BW
            go_wp2
            go_ret
            exact ⟨rfl, B5⟩
  · have hnz : (60 : Int) < (n : Int) := by omega
    go_enter Try.func8, Try.ntmps8
    go_wp2_with fail
    refine (clkAwake_any _).mono ?_
    rintro e w1 ⟨rfl, b1⟩
    go_wp2
    go_ret
    exact ⟨rfl, b1⟩

theorem contract (H : Type) (enc : TypeId × Value → H) (W : World) (base : Nat) (args : Array Value) (ds gs : List (DataW H)) (before : List MemPlace)
    (hval : ∀ (j : Nat) t v, Try.f8.params[j]? = some t → args[j]? = some v → Value.okWide Try.prog W .any base t v)
    (hW : DataW.Whole enc Try.prog Try.f8.params.toList Rows.clockTurnedSpec.vars false W args.toList ds gs before) :
    Calls Try.prog 8 args W fun e W' => ∃ v, e = .returned v ∧ Rows.clockTurnedSpec.post enc Try.prog Try.f8 false true false false W args v W' := by
  have hlt : ∀ x ∈ before, x.block < W.heap.size := fun x hx => by simpa using hW.lt x hx
  refine law_step 4 Try.laid_ (by kernel_rfl) rfl Try.underlying4 rfl hW (fun xs hx => ?_) ?_
  · match xs, hx with
    | [d0], _ => rfl
  · obtain ⟨p, q, hA0, hV, rfl, _, _⟩ := hW
    have hA : DataW.TrodAll enc Try.prog W 0 (fun _ => true) true Try.f8.params.toList args.toList ds p := hA0
    rw [Try.params8] at hA hval
    obtain ⟨v0, vs0, d0, ds0, p0, q0, e0, rfl, rfl, h0, r0⟩ := trodAll_cons hA
    obtain ⟨rfl, rfl, rfl⟩ := trodAll_nil r0
    obtain rfl : args = #[v0] := by cases args; simp_all
    clear e0 hA0
    obtain ⟨A0, n0, c0, l, rfl, rd0, wf0⟩ := open_stamps (hval 0 31 v0 rfl rfl) h0
    exact walk A0 n0 c0 l W rd0

set_option maxRecDepth 100000 in
theorem lifted (os : Os) (started : os.Started) (H : Type) (enc : TypeId × Value → H) :
    ReturnsInHanded {} Try.checked os 8 .any (Rows.clockTurnedSpec.pre6 enc Try.prog Try.f8 Rows.clockTurnedRow.domain false) (Rows.clockTurnedSpec.post enc Try.prog Try.f8 false true false false) := by
  refine returnsInHanded_of_change (C := Try.checked) Try.own_ started (by kernel_rfl) Try.func8
    (ChangeSpec.witness6 (enc := enc) (C := Try.checked) false ⟨#[], #[.slice none 0 0], []⟩ 8 (by kernel_rfl) (by kernel_rfl) (by kernel_rfl) (by kernel_rfl)) ?_
  intro W base args ds gs before hval hW _ _
  exact contract H enc W base args ds gs before hval hW

theorem holds : Rows.ClockTurnedSaid :=
  OpenClaim.holds_of_wide 8 Try.f8 rfl rfl rfl rfl rfl rfl rfl ⟨rfl, rfl, rfl, rfl, rfl⟩ rfl rfl rfl rfl rfl (by kernel_rfl) Try.func8 (by kernel_rfl)
    (of_decide_eq_true (by kernel_rfl)) (by unfold Func.isWrapper; first | (rw [if_pos (by decide +kernel)]; kernel_rfl) | (rw [if_neg (by decide +kernel)]; exact ⟨rfl, rfl⟩))
    (fun os started H enc _ => lifted os started H enc)
end Go.Proofs.Ythhacniljipegaa.clockTurned
