/- Whatever vectors come in: VectorAll answers true: what one lacks of another one are dots that the other one has, and it has not, each once; with them it has what the Join has. No condition. -/
import Derived.Test.YtefbgbciaiedeaaRows
import Derived.Test.YtefbgbciaiedeaaLaw
import Derived.Test.YtefbgbciaiedeaaVecAlive
import Derived.Test.YtefbgbciaiedeaaVecOpen
import Derived.Test.YtefbgbciaiedeaaVecAllMath
import Derived.Deep.RegionHeld3
import Derived.Deep.CutBlock
import Derived.Test.YtefbgbciaiedeaaTail
namespace Go.Proofs.Ytefbgbciaiedeaa.vectorAll
open Go.ChangeShapes Go.WideShapes Go.ChangeAt Go.RowKit Go.ChangeMaps

set_option maxRecDepth 100000 in
set_option maxHeartbeats 12800000 in
theorem walk (A B : Option Addr) (n c m d : Nat) (a b : List Int) (w : World) (ha : Rd w A n c (vals .i64 a)) (hb : Rd w B m d (vals .i64 b)) :
    Calls Try.prog 9 #[.slice A n c, .slice B m d] w fun e w' => e = .returned (.bool true) ∧ Below w.heap.size w w' := by
  have RA := Lib.hid ha; have RB := Lib.hid hb
  have hla := Lib.hid (show a.length = n by simpa using ha.len); have hlb := Lib.hid (show b.length = m by simpa using hb.len)
  clear ha hb
  by_cases hf : n ≤ 100 ∧ m ≤ 100
  rotate_left
  · have hfew : (decide (n ≤ 100) && decide (m ≤ 100)) = false := by
      by_cases h1 : n ≤ 100 <;> by_cases h2 : m ≤ 100 <;> simp [h1, h2] <;> omega
    clear hf
    go_enter Try.func9, Try.ntmps9
    go_wp2_with fail
    refine (is_bool (r := false) hfew (vecFew_any A B n m c d _)).mono ?_
    rintro e w1 ⟨rfl, hw1⟩
    have b1 := same_below hw1
    clear hw1
    have B1 := below_then (Below.refl w.heap.size w) b1
    replace RA := Lib.hid ((RA.out).below b1)
    replace RB := Lib.hid ((RB.out).below b1)
    clear b1
    go_wp2_with fail
    refine (vecAlive_any _).mono ?_
    rintro e w2 ⟨rfl, b2⟩
    have B2 := below_then (B1) b2
    replace RA := Lib.hid ((RA.out).below b2)
    replace RB := Lib.hid ((RB.out).below b2)
    clear B1
    clear b2
    go_wp2
    go_ret
    exact ⟨rfl, B2⟩
  have hfew : (decide (n ≤ 100) && decide (m ≤ 100)) = true := by simp [hf.1, hf.2]
  have hn4 : n ≤ 4294967296 := by omega
  have hm4 : m ≤ 4294967296 := by omega
  clear hf
  cases hra : rightV a with
  | false =>
    go_enter Try.func9, Try.ntmps9
    go_wp2_with fail
    refine (is_bool (r := true) hfew (vecFew_any A B n m c d _)).mono ?_
    rintro e w1 ⟨rfl, hw1⟩
    have b1 := same_below hw1
    clear hw1
    have B1 := below_then (Below.refl w.heap.size w) b1
    replace RA := Lib.hid ((RA.out).below b1)
    replace RB := Lib.hid ((RB.out).below b1)
    clear b1
    go_wp2_with fail
    refine (is_bool (r := false) hra (vecRight_any A n c a _ (RA.out))).mono ?_
    rintro e w2 ⟨rfl, hw2⟩
    have b2 := same_below hw2
    clear hw2
    have B2 := below_then (B1) b2
    replace RA := Lib.hid ((RA.out).below b2)
    replace RB := Lib.hid ((RB.out).below b2)
    clear B1
    clear b2
    go_wp2_with fail
    refine (vecAlive_any _).mono ?_
    rintro e w3 ⟨rfl, b3⟩
    have B3 := below_then (B2) b3
    replace RA := Lib.hid ((RA.out).below b3)
    replace RB := Lib.hid ((RB.out).below b3)
    clear B2
    clear b3
    go_wp2
    go_ret
    exact ⟨rfl, B3⟩
  | true =>
  cases hrb : rightV b with
  | false =>
    go_enter Try.func9, Try.ntmps9
    go_wp2_with fail
    refine (is_bool (r := true) hfew (vecFew_any A B n m c d _)).mono ?_
    rintro e w1 ⟨rfl, hw1⟩
    have b1 := same_below hw1
    clear hw1
    have B1 := below_then (Below.refl w.heap.size w) b1
    replace RA := Lib.hid ((RA.out).below b1)
    replace RB := Lib.hid ((RB.out).below b1)
    clear b1
    go_wp2_with fail
    refine (is_bool (r := true) hra (vecRight_any A n c a _ (RA.out))).mono ?_
    rintro e w2 ⟨rfl, hw2⟩
    have b2 := same_below hw2
    clear hw2
    have B2 := below_then (B1) b2
    replace RA := Lib.hid ((RA.out).below b2)
    replace RB := Lib.hid ((RB.out).below b2)
    clear B1
    clear b2
    go_wp2_with fail
    refine (is_bool (r := false) hrb (vecRight_any B m d b _ (RB.out))).mono ?_
    rintro e w3 ⟨rfl, hw3⟩
    have b3 := same_below hw3
    clear hw3
    have B3 := below_then (B2) b3
    replace RA := Lib.hid ((RA.out).below b3)
    replace RB := Lib.hid ((RB.out).below b3)
    clear B2
    clear b3
    go_wp2_with fail
    refine (vecAlive_any _).mono ?_
    rintro e w4 ⟨rfl, b4⟩
    have B4 := below_then (B3) b4
    replace RA := Lib.hid ((RA.out).below b4)
    replace RB := Lib.hid ((RB.out).below b4)
    clear B3
    clear b4
    go_wp2
    go_ret
    exact ⟨rfl, B4⟩
  | true =>
  obtain ⟨Tb, hTb⟩ : ∃ T, Hid (totalV b = T) := ⟨_, rfl⟩
  have okb := Lib.hid (all_right hrb)
  rcases Decidable.em (5000 < Tb) with h5 | h5
  · skip
    go_enter Try.func9, Try.ntmps9
    go_wp2_with fail
    refine (is_bool (r := true) hfew (vecFew_any A B n m c d _)).mono ?_
    rintro e w1 ⟨rfl, hw1⟩
    have b1 := same_below hw1
    clear hw1
    have B1 := below_then (Below.refl w.heap.size w) b1
    replace RA := Lib.hid ((RA.out).below b1)
    replace RB := Lib.hid ((RB.out).below b1)
    clear b1
    go_wp2_with fail
    refine (is_bool (r := true) hra (vecRight_any A n c a _ (RA.out))).mono ?_
    rintro e w2 ⟨rfl, hw2⟩
    have b2 := same_below hw2
    clear hw2
    have B2 := below_then (B1) b2
    replace RA := Lib.hid ((RA.out).below b2)
    replace RB := Lib.hid ((RB.out).below b2)
    clear B1
    clear b2
    go_wp2_with fail
    refine (is_bool (r := true) hrb (vecRight_any B m d b _ (RB.out))).mono ?_
    rintro e w3 ⟨rfl, hw3⟩
    have b3 := same_below hw3
    clear hw3
    have B3 := below_then (B2) b3
    replace RA := Lib.hid ((RA.out).below b3)
    replace RB := Lib.hid ((RB.out).below b3)
    clear B2
    clear b3
    go_wp2_with fail
    refine (is_int hTb.out (refTotal_any B m d b _ (RB.out) okb.out hm4)).mono ?_
    rintro e w4 ⟨rfl, hw4⟩
    have b4 := same_below hw4
    clear hw4
    have B4 := below_then (B3) b4
    replace RA := Lib.hid ((RA.out).below b4)
    replace RB := Lib.hid ((RB.out).below b4)
    clear B3
    clear b4
    go_wp2_with fail
    refine (vecAlive_any _).mono ?_
    rintro e w5 ⟨rfl, b5⟩
    have B5 := below_then (B4) b5
    replace RA := Lib.hid ((RA.out).below b5)
    replace RB := Lib.hid ((RB.out).below b5)
    clear B4
    clear b5
    go_wp2
    go_ret
    exact ⟨rfl, B5⟩
  · skip
    obtain ⟨J, kJ, hJ, hkJ, hlJ, HJ⟩ := named_join a b (by rw [hla.out]; exact hn4) (by rw [hlb.out]; exact hm4)
    obtain ⟨L, hL, kL, hkL⟩ : ∃ L, Hid (lackN a b b.length = L) ∧ ∃ k, Hid (L.length = k) := ⟨_, rfl, _, rfl⟩
    have hLV : Hid (lacksV a b = L) := by show _ = _; rw [← hL.out]; exact right_all hra hrb
    have hkG : Hid (lackG a b b.length = kL) := by show _ = _; rw [lackG, hL.out, hkL.out]
    have hkLb : kL ≤ 67108864 := by have h1 := lackN_le hra hrb b.length; have h2 := ((rightV_iff b).1 hrb).1; rw [hL.out, hkL.out] at h1; omega
    obtain ⟨Ta, hTa⟩ : ∃ T, Hid (totalV a = T) := ⟨_, rfl⟩
    have oka := Lib.hid (all_right hra)
    have okJ : Hid (J.all okN = true) := by show _ = _; rw [← hJ.out]; exact join_ok hra hrb
    have hTJ : Hid (totalV J = Ta + (kL : Int)) := by show _ = _; rw [← hJ.out, join_total hra hrb, hTa.out, hkG.out]
    have qT : IntKind.i64.wrap (Ta + (kL : Int)) = Ta + (kL : Int) := wrap_is (by have := total_bound hra; rw [hTa.out] at this; omega)
    have FK : Hid (∀ k, k < kL → ∃ (i : Nat) (s : Int), i < m ∧ L[k]? = some ⟨(i : Int) + 1, s⟩ ∧ hasV a ((i : Int) + 1) s = false ∧ hasV b ((i : Int) + 1) s = true ∧ lackC a b k i = s - 1 ∧ 1 ≤ s ∧ s ≤ 1048576 ∧ (∀ t, lackC a b (k + 1) t = if t = i then s else lackC a b k t) ∧
        (∀ k1, k = k1 + 1 → ∃ d1 s1 : Int, L[k1]? = some ⟨d1, s1⟩ ∧ ¬ (i : Int) + 1 < d1 ∧ ((i : Int) + 1 = d1 → ¬ s ≤ s1))) := by
      intro k hk
      have := lack_facts hra hrb (k := k) (by rw [hkG.out]; exact hk)
      rw [hL.out, hlb.out] at this
      exact this
    have hm64 : m ≤ 64 := by have := ((rightV_iff b).1 hrb).1; rw [hlb.out] at this; exact this
    have hCE : Hid (∀ t, lackC a b kL t = ofN J t) := by
      intro t
      rw [HJ.out, ← hkG.out]
      exact lackC_end hra t
    have hfr : Hid (hasV a 0 0 = hasV a 0 0) := rfl
    clear hfr
    go_enter Try.func9, Try.ntmps9
    go_wp2_with fail
    refine (is_bool (r := true) hfew (vecFew_any A B n m c d _)).mono ?_
    rintro e w1 ⟨rfl, hw1⟩
    have b1 := same_below hw1
    clear hw1
    have B1 := below_then (Below.refl w.heap.size w) b1
    replace RA := Lib.hid ((RA.out).below b1)
    replace RB := Lib.hid ((RB.out).below b1)
    clear b1
    go_wp2_with fail
    refine (is_bool (r := true) hra (vecRight_any A n c a _ (RA.out))).mono ?_
    rintro e w2 ⟨rfl, hw2⟩
    have b2 := same_below hw2
    clear hw2
    have B2 := below_then (B1) b2
    replace RA := Lib.hid ((RA.out).below b2)
    replace RB := Lib.hid ((RB.out).below b2)
    clear B1
    clear b2
    go_wp2_with fail
    refine (is_bool (r := true) hrb (vecRight_any B m d b _ (RB.out))).mono ?_
    rintro e w3 ⟨rfl, hw3⟩
    have b3 := same_below hw3
    clear hw3
    have B3 := below_then (B2) b3
    replace RA := Lib.hid ((RA.out).below b3)
    replace RB := Lib.hid ((RB.out).below b3)
    clear B2
    clear b3
    go_wp2_with fail
    refine (is_int hTb.out (refTotal_any B m d b _ (RB.out) okb.out hm4)).mono ?_
    rintro e w4 ⟨rfl, hw4⟩
    have b4 := same_below hw4
    clear hw4
    have B4 := below_then (B3) b4
    replace RA := Lib.hid ((RA.out).below b4)
    replace RB := Lib.hid ((RB.out).below b4)
    clear B3
    clear b4
    go_wp2_with fail
    refine (vecLacks_is hLV.out hkL.out (RA.out) (RB.out)).mono ?_
    rintro e w5 ⟨AL, cL, rfl, rL, b5⟩
    have B5 := below_then (B4) b5
    replace RA := Lib.hid ((RA.out).below b5)
    replace RB := Lib.hid ((RB.out).below b5)
    have RL := Lib.hid rL
    clear rL
    clear B4
    clear b5
    go_wp2_with fail
    go_loopw [6, 35] (fun vv i wr => ∃ (k : Nat) (X : Option Addr) (p q : Nat) (v : List Int), i = .int .i64 k ∧ vv = .slice X p q ∧ k ≤ kL ∧ p ≤ 4294967296 ∧ Hid (v.length = p) ∧ Hid (∀ t, ofN v t = lackC a b k t) ∧ Hid (Rd wr X p q (vals .i64 v)) ∧ Below w5.heap.size w5 wr) (fun _ i _ => kL - (intOf i).toNat)
    case atStart => exact ⟨0, A, n, c, a, rfl, rfl, Nat.zero_le _, hn4, hla, fun t => (lackC_zero a b t).symm, RA, Below.refl _ _⟩
    case round =>
      obtain ⟨k, X, p, q, v, rfl, rfl, hk, hp4, hlv, HV, RV, BW⟩ := hrel
      have BW0 := below_then B5 BW
      by_cases hlt : k < kL
      rotate_left
      · have hlz : ¬ (k : Int) < (kL : Int) := by omega
        obtain rfl : k = kL := by omega
        have HS : Hid (sameV v J = true) := sameV_of fun t => by rw [HV.out, hCE.out]
        have HA := Lib.hid (RA.out.below BW)
        have HB := Lib.hid (RB.out.below BW)
        clear HV FK
        go_wp2_with fail
        refine (vecAlive_any _).mono ?_
        rintro e w21 ⟨rfl, b21⟩
        have B21 := below_then (BW0) b21
        replace HA := Lib.hid ((HA.out).below b21)
        replace HB := Lib.hid ((HB.out).below b21)
        replace RV := Lib.hid ((RV.out).below b21)
        clear b21
        go_wp2_with fail
        refine (vecJoin_is hJ.out hkJ.out (HA.out) (HB.out) hn4 hm4).mono ?_
        rintro e w22 ⟨XJ, cJ, rfl, rJ, b22⟩
        have B22 := below_then (B21) b22
        replace HA := Lib.hid ((HA.out).below b22)
        replace HB := Lib.hid ((HB.out).below b22)
        replace RV := Lib.hid ((RV.out).below b22)
        have RJ := Lib.hid rJ
        clear rJ
        clear B21
        clear b22
        go_wp2_with fail
        refine (is_bool (r := true) HS.out (vecSame_any X XJ p kJ q cJ v J _ (RV.out) (RJ.out))).mono ?_
        rintro e w23 ⟨rfl, hw23⟩
        have b23 := same_below hw23
        clear hw23
        have B23 := below_then (B22) b23
        replace HA := Lib.hid ((HA.out).below b23)
        replace HB := Lib.hid ((HB.out).below b23)
        replace RV := Lib.hid ((RV.out).below b23)
        replace RJ := Lib.hid ((RJ.out).below b23)
        clear B22
        clear b23
        go_wp2_with fail
        refine (vecJoin_is hJ.out hkJ.out (HA.out) (HB.out) hn4 hm4).mono ?_
        rintro e w24 ⟨XK, cK, rfl, rK, b24⟩
        have B24 := below_then (B23) b24
        replace HA := Lib.hid ((HA.out).below b24)
        replace HB := Lib.hid ((HB.out).below b24)
        replace RV := Lib.hid ((RV.out).below b24)
        replace RJ := Lib.hid ((RJ.out).below b24)
        have RK := Lib.hid rK
        clear rK
        clear B23
        clear b24
        go_wp2_with fail
        refine (is_int hTJ.out (refTotal_any XK kJ cK J _ (RK.out) okJ.out hlJ)).mono ?_
        rintro e w25 ⟨rfl, hw25⟩
        have b25 := same_below hw25
        clear hw25
        have B25 := below_then (B24) b25
        replace HA := Lib.hid ((HA.out).below b25)
        replace HB := Lib.hid ((HB.out).below b25)
        replace RV := Lib.hid ((RV.out).below b25)
        replace RJ := Lib.hid ((RJ.out).below b25)
        replace RK := Lib.hid ((RK.out).below b25)
        clear B24
        clear b25
        go_wp2_with fail
        refine (is_int hTa.out (refTotal_any A n c a _ (HA.out) oka.out hn4)).mono ?_
        rintro e w26 ⟨rfl, hw26⟩
        have b26 := same_below hw26
        clear hw26
        have B26 := below_then (B25) b26
        replace HA := Lib.hid ((HA.out).below b26)
        replace HB := Lib.hid ((HB.out).below b26)
        replace RV := Lib.hid ((RV.out).below b26)
        replace RJ := Lib.hid ((RJ.out).below b26)
        replace RK := Lib.hid ((RK.out).below b26)
        clear B25
        clear b26
        go_wp2
        go_ret
        exact ⟨rfl, B26⟩
      · have hlz : (k : Int) < (kL : Int) := by omega
        obtain ⟨i, s, him, hLk, hHA, hHB, hCi, hs1, hs2, hCn, hprev⟩ := FK.out k hlt
        obtain ⟨bl, ol, x0, rfl, hbl, hx0, hc0⟩ := RL.out.dot (k := k) hlt
        rw [hLk] at hx0
        injection hx0 with hx0
        subst hx0
        have hld := hc0 _ BW
        obtain ⟨c0, c1⟩ := hld
        simp only at c0 c1
        have HNX : Hid (∀ t, ofN (setV v ((i : Int) + 1) s) t = lackC a b (k + 1) t) := by
          intro t
          rw [ofN_set, hCn t, HV.out t]
          by_cases ht : t = i
          · subst ht; rw [if_pos ⟨rfl, by omega⟩, if_pos rfl]
          · rw [if_neg (by omega), if_neg ht]
        have HOF : Hid (ofV v ((i : Int) + 1) = s - 1) := by show _ = _; rw [ofV_nat, HV.out, hCi]
        obtain ⟨V, hV, kV, hkV⟩ : ∃ V, Hid (setV v ((i : Int) + 1) s = V) ∧ ∃ j, Hid (V.length = j) := ⟨_, rfl, _, rfl⟩
        have hkV4 : kV ≤ 4294967296 := by have := setV_len v ((i : Int) + 1) s; rw [hV.out, hkV.out, hlv.out] at this; omega
        rw [hV.out] at HNX
        replace hHA := Lib.hid hHA; replace hHB := Lib.hid hHB
        have RA2 := Lib.hid (RA.out.below BW); have RB2 := Lib.hid (RB.out.below BW)
        obtain ⟨g, hg⟩ : ∃ g, Hid (g = wr.heap.size) := ⟨_, rfl⟩
        have qs : IntKind.i64.wrap (s - 1) = s - 1 := wrap_is (by omega)
        clear hLk hCi hCn
        replace hprev := Lib.hid hprev
        have HGN := heap_alloc_new wr (Obj.cells #[.int .i64 ((i : Int) + 1), .int .i64 s] 25)
        have BA := below_new (Below.refl wr.heap.size wr) (Obj.cells #[.int .i64 ((i : Int) + 1), .int .i64 s] 25)
        have RV6 := Lib.hid (RV.out.alloc (Obj.cells #[.int .i64 ((i : Int) + 1), .int .i64 s] 25))
        have B6 := below_then BW BA
        obtain ⟨z0, z1⟩ := pair_at HGN
        clear HGN BA hbl hc0
        go_wp2_with fail
        rw [← hg.out] at z0 z1
        rw [← hg.out]
        generalize wr.alloc (Obj.cells #[.int .i64 ((i : Int) + 1), .int .i64 s] 25) = w6 at z0 z1 RV6 B6 ⊢
        clear c0 c1
        rcases Nat.eq_zero_or_pos k with hk0 | hk0
        · subst hk0
          have hkz : ¬ (0 : Int) < ((0 : Nat) : Int) := by omega
          refine wp_region_noPanic ?_
          refine wp_region_held_drew (S := (fun W => Below w5.heap.size w5 W ∧ Hid (Rd W X p q (vals .i64 v)) ∧ W.cell? ⟨g, 0, none⟩ = some (.int .i64 ((i : Int) + 1)) ∧ W.cell? ⟨g, 1, none⟩ = some (.int .i64 s))) (by kernel_rfl) ?_ (fun hHeld => ?_)
          · exact ⟨B6.drew, RV6.out.drew, z0, z1⟩
          refine wpAnyH_puts (by kernel_rfl) (fun _ _ _ _ _ h => h) (by assumption) [0] 55 [(some 40, .slice A n c)] (by kernel_rfl) (by kernel_rfl) ?_
          (try simp only [putsOf, Act.put, List.setIfInBounds_toArray, List.set_cons_zero, List.set_cons_succ])
          refine wpAnyH_one (by kernel_rfl) (fun _ _ _ _ _ h => h) (by assumption) 1 54 (some 41) ?_ _ (by rfl) (by rfl) (by kernel_rfl) (by rfl) ?_ ?_
          rotate_left 1
          · intro W hSw
            (try dsimp only at hSw)
            go_simp
            (try with_reducible rfl)
          (try simp only [Act.put, List.setIfInBounds_toArray, List.set_cons_zero, List.set_cons_succ])
          refine wpAnyH_ready (rs := [2]) (by kernel_rfl) (by simp) (AllReadyH.cons rfl (fun K hK => ?_) AllReadyH.nil)
          go_simp
          refine (is_bool (r := false) hHA.out (vecHas_any A n c a _ _ _ (RA.out.below hHeld.1))).mono ?_
          rintro e wx ⟨rfl, bb⟩
          (try go_wp2_with fail)
          refine hK.out _ _ ?_ (fun hHeld => ?_)
          · (try dsimp only)
            exact ⟨below_then hHeld.1 bb, hHeld.2.1.out.below bb, (bb.cell (World.block_lt_of_cell? _ _ hHeld.2.2.1)).trans hHeld.2.2.1, (bb.cell (World.block_lt_of_cell? _ _ hHeld.2.2.2)).trans hHeld.2.2.2⟩
          clear hK K
          (try simp only [Act.put, List.setIfInBounds_toArray, List.set_cons_zero, List.set_cons_succ])
          refine wpAnyH_puts (by kernel_rfl) (fun _ _ _ _ _ h => h) (by assumption) [3, 4] 51 [(some 43, .bool false), (some 44, .slice B m d)] (by kernel_rfl) (by kernel_rfl) ?_
          (try simp only [putsOf, Act.put, List.setIfInBounds_toArray, List.set_cons_zero, List.set_cons_succ])
          refine wpAnyH_one (by kernel_rfl) (fun _ _ _ _ _ h => h) (by assumption) 5 50 (some 45) ?_ _ (by rfl) (by rfl) (by kernel_rfl) (by rfl) ?_ ?_
          rotate_left 1
          · intro W hSw
            (try dsimp only at hSw)
            go_simp
            (try with_reducible rfl)
          (try simp only [Act.put, List.setIfInBounds_toArray, List.set_cons_zero, List.set_cons_succ])
          refine wpAnyH_ready (rs := [6]) (by kernel_rfl) (by simp) (AllReadyH.cons rfl (fun K hK => ?_) AllReadyH.nil)
          go_simp
          refine (is_bool (r := true) hHB.out (vecHas_any B m d b _ _ _ (RB.out.below hHeld.1))).mono ?_
          rintro e wx ⟨rfl, bb⟩
          (try go_wp2_with fail)
          refine hK.out _ _ ?_ (fun hHeld => ?_)
          · (try dsimp only)
            exact ⟨below_then hHeld.1 bb, hHeld.2.1.out.below bb, (bb.cell (World.block_lt_of_cell? _ _ hHeld.2.2.1)).trans hHeld.2.2.1, (bb.cell (World.block_lt_of_cell? _ _ hHeld.2.2.2)).trans hHeld.2.2.2⟩
          clear hK K
          (try simp only [Act.put, List.setIfInBounds_toArray, List.set_cons_zero, List.set_cons_succ])
          refine wpAnyH_one (by kernel_rfl) (fun _ _ _ _ _ h => h) (by assumption) 7 48 (some 47) ?_ _ (by rfl) (by rfl) (by kernel_rfl) (by rfl) ?_ ?_
          rotate_left 1
          · intro W hSw
            (try dsimp only at hSw)
            go_simp
            (try with_reducible rfl)
          (try simp only [Act.put, List.setIfInBounds_toArray, List.set_cons_zero, List.set_cons_succ])
          refine wpAnyH_puts (by kernel_rfl) (fun _ _ _ _ _ h => h) (by assumption) [8, 9, 10] 45 [(some 48, .bool false), (some 49, .bool false), (some 50, .slice X p q)] (by kernel_rfl) (by kernel_rfl) ?_
          (try simp only [putsOf, Act.put, List.setIfInBounds_toArray, List.set_cons_zero, List.set_cons_succ])
          refine wpAnyH_one (by kernel_rfl) (fun _ _ _ _ _ h => h) (by assumption) 11 44 (some 51) ?_ _ (by rfl) (by rfl) (by kernel_rfl) (by rfl) ?_ ?_
          rotate_left 1
          · intro W hSw
            (try dsimp only at hSw)
            go_simp
            (try with_reducible rfl)
          (try simp only [Act.put, List.setIfInBounds_toArray, List.set_cons_zero, List.set_cons_succ])
          refine wpAnyH_one (by kernel_rfl) (fun _ _ _ _ _ h => h) (by assumption) 12 43 (some 52) ?_ _ (by rfl) (by rfl) (by kernel_rfl) (by rfl) ?_ ?_
          rotate_left 1
          · intro W hSw
            (try dsimp only at hSw)
            go_simp
            (try with_reducible rfl)
          (try simp only [Act.put, List.setIfInBounds_toArray, List.set_cons_zero, List.set_cons_succ])
          refine wpAnyH_one (by kernel_rfl) (fun _ _ _ _ _ h => h) (by assumption) 14 42 (some 54) ?_ _ (by rfl) (by rfl) (by kernel_rfl) (by rfl) ?_ ?_
          rotate_left 1
          · intro W hSw
            (try dsimp only at hSw)
            go_simp
            (try with_reducible rfl)
          (try simp only [Act.put, List.setIfInBounds_toArray, List.set_cons_zero, List.set_cons_succ])
          refine wpAnyH_one (by kernel_rfl) (fun _ _ _ _ _ h => h) (by assumption) 15 41 (some 55) ?_ _ (by rfl) (by rfl) (by kernel_rfl) (by rfl) ?_ ?_
          rotate_left 1
          · intro W hSw
            (try dsimp only at hSw)
            go_simp
            (try with_reducible rfl)
          (try simp only [Act.put, List.setIfInBounds_toArray, List.set_cons_zero, List.set_cons_succ])
          refine wpAnyH_one (by kernel_rfl) (fun _ _ _ _ _ h => h) (by assumption) 16 40 (some 56) ?_ _ (by rfl) (by rfl) (by kernel_rfl) (by rfl) ?_ ?_
          rotate_left 1
          · intro W hSw
            (try dsimp only at hSw)
            go_simp
            (try with_reducible rfl)
          (try simp only [Act.put, List.setIfInBounds_toArray, List.set_cons_zero, List.set_cons_succ])
          refine wpAnyH_ready (rs := [13]) (by kernel_rfl) (by simp) (AllReadyH.cons rfl (fun K hK => ?_) AllReadyH.nil)
          go_simp
          refine (is_int HOF.out (vecOf_any X p q v _ _ hHeld.2.1.out)).mono ?_
          rintro e wx ⟨rfl, hw⟩
          have bb := same_below hw
          clear hw
          (try go_wp2_with fail)
          refine hK.out _ _ ?_ (fun hHeld => ?_)
          · (try dsimp only)
            exact ⟨below_then hHeld.1 bb, hHeld.2.1.out.below bb, (bb.cell (World.block_lt_of_cell? _ _ hHeld.2.2.1)).trans hHeld.2.2.1, (bb.cell (World.block_lt_of_cell? _ _ hHeld.2.2.2)).trans hHeld.2.2.2⟩
          clear hK K
          (try simp only [Act.put, List.setIfInBounds_toArray, List.set_cons_zero, List.set_cons_succ])
          refine wpAnyH_one (by kernel_rfl) (fun _ _ _ _ _ h => h) (by assumption) 17 38 (some 57) ?_ _ (by rfl) (by rfl) (by kernel_rfl) (by rfl) ?_ ?_
          rotate_left 1
          · intro W hSw
            (try dsimp only at hSw)
            go_simp
            (try with_reducible rfl)
          (try simp only [Act.put, List.setIfInBounds_toArray, List.set_cons_zero, List.set_cons_succ])
          refine wpAnyH_puts (by kernel_rfl) (fun _ _ _ _ _ h => h) (by assumption) [18, 19, 20] 35 [(some 58, .bool false), (some 59, .bool false), (some 60, .int .i64 ((0 : Nat) : Int))] (by kernel_rfl) (by kernel_rfl) ?_
          (try simp only [putsOf, Act.put, List.setIfInBounds_toArray, List.set_cons_zero, List.set_cons_succ])
          refine wpAnyH_one (by kernel_rfl) (fun _ _ _ _ _ h => h) (by assumption) 21 34 (some 61) ?_ _ (by rfl) (by rfl) (by kernel_rfl) (by rfl) ?_ ?_
          rotate_left 1
          · intro W hSw
            (try dsimp only at hSw)
            go_simp
            (try with_reducible rfl)
          (try simp only [Act.put, List.setIfInBounds_toArray, List.set_cons_zero, List.set_cons_succ])
          refine wpAnyH_puts (by kernel_rfl) (fun _ _ _ _ _ h => h) (by assumption) [22, 23, 24, 25, 26, 27, 28, 29, 30, 31, 32, 33, 34, 35, 36, 37, 38, 39, 40, 41, 42, 43, 44, 45, 46, 47, 48, 49, 50, 51, 52, 53, 54, 55] 0 [(some 62, .bool false), (some 63, undef), (some 64, undef), (some 65, undef), (some 66, undef), (some 67, undef), (some 68, undef), (some 69, undef), (some 70, undef), (some 71, undef), (some 72, undef), (some 73, undef), (some 74, undef), (some 75, undef), (some 76, undef), (some 77, undef), (some 78, undef), (some 79, undef), (some 80, undef), (some 81, undef), (some 82, undef), (some 83, undef), (some 84, undef), (some 85, undef), (some 86, undef), (some 87, undef), (some 88, undef), (some 89, undef), (some 90, undef), (some 91, undef), (some 92, undef), (some 93, undef), (some 94, .bool false), (some 95, .bool false)] (by kernel_rfl) (by kernel_rfl) ?_
          (try simp only [putsOf, Act.put, List.setIfInBounds_toArray, List.set_cons_zero, List.set_cons_succ])
          refine wpAnyH_done (by kernel_rfl) ?_ _
          refine NoPanic.normal ?_
          (try simp only [Act.put, List.setIfInBounds_toArray, List.set_cons_zero, List.set_cons_succ])
          obtain ⟨BE, HVE, e0, e1⟩ := hHeld
          clear z0 z1 B6 RV6
          go_wp2_with fail
          refine (vecSet_is hV.out hkV.out HVE.out hp4).mono ?_
          rintro e w7 ⟨X2, c2, rfl, r2, b2⟩
          go_wp2
          exact ⟨⟨0 + 1, X2, kV, c2, V, by go_num, rfl, by omega, hkV4, hkV, HNX, r2, below_then BE b2⟩, by simp [intOf]; omega⟩
        · obtain ⟨k1, hk1⟩ : ∃ k1, Hid (k = k1 + 1) := ⟨k - 1, by show _ = _; omega⟩
          obtain ⟨d1, s1, hL1, hd1, hsd⟩ := hprev.out k1 hk1.out
          have hk1L : k1 < kL := by have := hk1.out; omega
          obtain ⟨b', o', x1, e2, _, hx1, hc1⟩ := RL.out.dot (k := k1) hk1L
          injection e2 with e2
          injection e2 with e3 e4
          subst e3 e4
          rw [hL1] at hx1
          injection hx1 with hx1
          subst hx1
          obtain ⟨p0, p1⟩ := hc1 _ B6
          simp only at p0 p1
          have hkz : (0 : Int) < (k : Int) := by omega
          have q1 : (0 : Int) ≤ (k : Int) - 1 := by omega
          have q2 : (k : Int) - 1 < (kL : Int) := by omega
          have q3 : ((k : Int) - 1).toNat = k1 := by have := hk1.out; omega
          have q4 : IntKind.i64.wrap ((k : Int) - 1) = (k : Int) - 1 := wrap_is (by omega)
          have q8 : (1 : Int) ≤ (k : Int) := by omega
          have q9 : (k : Int) ≤ (kL : Int) := by omega
          clear hc1 hL1 hk1L
          rcases Decidable.em ((i : Int) + 1 = d1) with he | he
          · subst he
            have hs0b : ¬ s ≤ s1 := by have := hsd rfl; omega
            have hs0 : decide (s ≤ s1) = false := decide_eq_false hs0b
            clear hd1 hsd
            refine wp_region_noPanic ?_
            refine wp_region_held_drew (S := (fun W => Below w5.heap.size w5 W ∧ Hid (Rd W X p q (vals .i64 v)) ∧ W.cell? ⟨g, 0, none⟩ = some (.int .i64 ((i : Int) + 1)) ∧ W.cell? ⟨g, 1, none⟩ = some (.int .i64 s) ∧ W.cell? ⟨bl, ol + k1 * 2, none⟩ = some (.int .i64 ((i : Int) + 1)) ∧ W.cell? ⟨bl, ol + k1 * 2 + 1, none⟩ = some (.int .i64 s1))) (by kernel_rfl) ?_ (fun hHeld => ?_)
            · exact ⟨B6.drew, RV6.out.drew, z0, z1, p0, p1⟩
            refine wpAnyH_puts (by kernel_rfl) (fun _ _ _ _ _ h => h) (by assumption) [0] 55 [(some 40, .slice A n c)] (by kernel_rfl) (by kernel_rfl) ?_
            (try simp only [putsOf, Act.put, List.setIfInBounds_toArray, List.set_cons_zero, List.set_cons_succ])
            refine wpAnyH_one (by kernel_rfl) (fun _ _ _ _ _ h => h) (by assumption) 1 54 (some 41) ?_ _ (by rfl) (by rfl) (by kernel_rfl) (by rfl) ?_ ?_
            rotate_left 1
            · intro W hSw
              (try dsimp only at hSw)
              go_simp
              (try with_reducible rfl)
            (try simp only [Act.put, List.setIfInBounds_toArray, List.set_cons_zero, List.set_cons_succ])
            refine wpAnyH_ready (rs := [2]) (by kernel_rfl) (by simp) (AllReadyH.cons rfl (fun K hK => ?_) AllReadyH.nil)
            go_simp
            refine (is_bool (r := false) hHA.out (vecHas_any A n c a _ _ _ (RA.out.below hHeld.1))).mono ?_
            rintro e wx ⟨rfl, bb⟩
            (try go_wp2_with fail)
            refine hK.out _ _ ?_ (fun hHeld => ?_)
            · (try dsimp only)
              exact ⟨below_then hHeld.1 bb, hHeld.2.1.out.below bb, (bb.cell (World.block_lt_of_cell? _ _ hHeld.2.2.1)).trans hHeld.2.2.1, (bb.cell (World.block_lt_of_cell? _ _ hHeld.2.2.2.1)).trans hHeld.2.2.2.1, (bb.cell (World.block_lt_of_cell? _ _ hHeld.2.2.2.2.1)).trans hHeld.2.2.2.2.1, (bb.cell (World.block_lt_of_cell? _ _ hHeld.2.2.2.2.2)).trans hHeld.2.2.2.2.2⟩
            clear hK K
            (try simp only [Act.put, List.setIfInBounds_toArray, List.set_cons_zero, List.set_cons_succ])
            refine wpAnyH_puts (by kernel_rfl) (fun _ _ _ _ _ h => h) (by assumption) [3, 4] 51 [(some 43, .bool false), (some 44, .slice B m d)] (by kernel_rfl) (by kernel_rfl) ?_
            (try simp only [putsOf, Act.put, List.setIfInBounds_toArray, List.set_cons_zero, List.set_cons_succ])
            refine wpAnyH_one (by kernel_rfl) (fun _ _ _ _ _ h => h) (by assumption) 5 50 (some 45) ?_ _ (by rfl) (by rfl) (by kernel_rfl) (by rfl) ?_ ?_
            rotate_left 1
            · intro W hSw
              (try dsimp only at hSw)
              go_simp
              (try with_reducible rfl)
            (try simp only [Act.put, List.setIfInBounds_toArray, List.set_cons_zero, List.set_cons_succ])
            refine wpAnyH_ready (rs := [6]) (by kernel_rfl) (by simp) (AllReadyH.cons rfl (fun K hK => ?_) AllReadyH.nil)
            go_simp
            refine (is_bool (r := true) hHB.out (vecHas_any B m d b _ _ _ (RB.out.below hHeld.1))).mono ?_
            rintro e wx ⟨rfl, bb⟩
            (try go_wp2_with fail)
            refine hK.out _ _ ?_ (fun hHeld => ?_)
            · (try dsimp only)
              exact ⟨below_then hHeld.1 bb, hHeld.2.1.out.below bb, (bb.cell (World.block_lt_of_cell? _ _ hHeld.2.2.1)).trans hHeld.2.2.1, (bb.cell (World.block_lt_of_cell? _ _ hHeld.2.2.2.1)).trans hHeld.2.2.2.1, (bb.cell (World.block_lt_of_cell? _ _ hHeld.2.2.2.2.1)).trans hHeld.2.2.2.2.1, (bb.cell (World.block_lt_of_cell? _ _ hHeld.2.2.2.2.2)).trans hHeld.2.2.2.2.2⟩
            clear hK K
            (try simp only [Act.put, List.setIfInBounds_toArray, List.set_cons_zero, List.set_cons_succ])
            refine wpAnyH_one (by kernel_rfl) (fun _ _ _ _ _ h => h) (by assumption) 7 48 (some 47) ?_ _ (by rfl) (by rfl) (by kernel_rfl) (by rfl) ?_ ?_
            rotate_left 1
            · intro W hSw
              (try dsimp only at hSw)
              go_simp
              (try with_reducible rfl)
            (try simp only [Act.put, List.setIfInBounds_toArray, List.set_cons_zero, List.set_cons_succ])
            refine wpAnyH_puts (by kernel_rfl) (fun _ _ _ _ _ h => h) (by assumption) [8, 9, 10] 45 [(some 48, .bool false), (some 49, .bool false), (some 50, .slice X p q)] (by kernel_rfl) (by kernel_rfl) ?_
            (try simp only [putsOf, Act.put, List.setIfInBounds_toArray, List.set_cons_zero, List.set_cons_succ])
            refine wpAnyH_one (by kernel_rfl) (fun _ _ _ _ _ h => h) (by assumption) 11 44 (some 51) ?_ _ (by rfl) (by rfl) (by kernel_rfl) (by rfl) ?_ ?_
            rotate_left 1
            · intro W hSw
              (try dsimp only at hSw)
              go_simp
              (try with_reducible rfl)
            (try simp only [Act.put, List.setIfInBounds_toArray, List.set_cons_zero, List.set_cons_succ])
            refine wpAnyH_one (by kernel_rfl) (fun _ _ _ _ _ h => h) (by assumption) 12 43 (some 52) ?_ _ (by rfl) (by rfl) (by kernel_rfl) (by rfl) ?_ ?_
            rotate_left 1
            · intro W hSw
              (try dsimp only at hSw)
              go_simp
              (try with_reducible rfl)
            (try simp only [Act.put, List.setIfInBounds_toArray, List.set_cons_zero, List.set_cons_succ])
            refine wpAnyH_one (by kernel_rfl) (fun _ _ _ _ _ h => h) (by assumption) 14 42 (some 54) ?_ _ (by rfl) (by rfl) (by kernel_rfl) (by rfl) ?_ ?_
            rotate_left 1
            · intro W hSw
              (try dsimp only at hSw)
              go_simp
              (try with_reducible rfl)
            (try simp only [Act.put, List.setIfInBounds_toArray, List.set_cons_zero, List.set_cons_succ])
            refine wpAnyH_one (by kernel_rfl) (fun _ _ _ _ _ h => h) (by assumption) 15 41 (some 55) ?_ _ (by rfl) (by rfl) (by kernel_rfl) (by rfl) ?_ ?_
            rotate_left 1
            · intro W hSw
              (try dsimp only at hSw)
              go_simp
              (try with_reducible rfl)
            (try simp only [Act.put, List.setIfInBounds_toArray, List.set_cons_zero, List.set_cons_succ])
            refine wpAnyH_one (by kernel_rfl) (fun _ _ _ _ _ h => h) (by assumption) 16 40 (some 56) ?_ _ (by rfl) (by rfl) (by kernel_rfl) (by rfl) ?_ ?_
            rotate_left 1
            · intro W hSw
              (try dsimp only at hSw)
              go_simp
              (try with_reducible rfl)
            (try simp only [Act.put, List.setIfInBounds_toArray, List.set_cons_zero, List.set_cons_succ])
            refine wpAnyH_ready (rs := [13]) (by kernel_rfl) (by simp) (AllReadyH.cons rfl (fun K hK => ?_) AllReadyH.nil)
            go_simp
            refine (is_int HOF.out (vecOf_any X p q v _ _ hHeld.2.1.out)).mono ?_
            rintro e wx ⟨rfl, hw⟩
            have bb := same_below hw
            clear hw
            (try go_wp2_with fail)
            refine hK.out _ _ ?_ (fun hHeld => ?_)
            · (try dsimp only)
              exact ⟨below_then hHeld.1 bb, hHeld.2.1.out.below bb, (bb.cell (World.block_lt_of_cell? _ _ hHeld.2.2.1)).trans hHeld.2.2.1, (bb.cell (World.block_lt_of_cell? _ _ hHeld.2.2.2.1)).trans hHeld.2.2.2.1, (bb.cell (World.block_lt_of_cell? _ _ hHeld.2.2.2.2.1)).trans hHeld.2.2.2.2.1, (bb.cell (World.block_lt_of_cell? _ _ hHeld.2.2.2.2.2)).trans hHeld.2.2.2.2.2⟩
            clear hK K
            (try simp only [Act.put, List.setIfInBounds_toArray, List.set_cons_zero, List.set_cons_succ])
            refine wpAnyH_one (by kernel_rfl) (fun _ _ _ _ _ h => h) (by assumption) 17 38 (some 57) ?_ _ (by rfl) (by rfl) (by kernel_rfl) (by rfl) ?_ ?_
            rotate_left 1
            · intro W hSw
              (try dsimp only at hSw)
              go_simp
              (try with_reducible rfl)
            (try simp only [Act.put, List.setIfInBounds_toArray, List.set_cons_zero, List.set_cons_succ])
            refine wpAnyH_puts (by kernel_rfl) (fun _ _ _ _ _ h => h) (by assumption) [18, 19, 20] 35 [(some 58, .bool false), (some 59, .bool false), (some 60, .int .i64 (k : Int))] (by kernel_rfl) (by kernel_rfl) ?_
            (try simp only [putsOf, Act.put, List.setIfInBounds_toArray, List.set_cons_zero, List.set_cons_succ])
            refine wpAnyH_one (by kernel_rfl) (fun _ _ _ _ _ h => h) (by assumption) 21 34 (some 61) ?_ _ (by rfl) (by rfl) (by kernel_rfl) (by rfl) ?_ ?_
            rotate_left 1
            · intro W hSw
              (try dsimp only at hSw)
              go_simp
              (try with_reducible rfl)
            (try simp only [Act.put, List.setIfInBounds_toArray, List.set_cons_zero, List.set_cons_succ])
            refine wpAnyH_puts (by kernel_rfl) (fun _ _ _ _ _ h => h) (by assumption) [22] 33 [(some 62, .bool true)] (by kernel_rfl) (by kernel_rfl) ?_
            (try simp only [putsOf, Act.put, List.setIfInBounds_toArray, List.set_cons_zero, List.set_cons_succ])
            refine wpAnyH_one (by kernel_rfl) (fun _ _ _ _ _ h => h) (by assumption) 23 32 (some 63) ?_ _ (by rfl) (by rfl) (by kernel_rfl) (by rfl) ?_ ?_
            rotate_left 1
            · intro W hSw
              (try dsimp only at hSw)
              go_simp
              (try with_reducible rfl)
            (try simp only [Act.put, List.setIfInBounds_toArray, List.set_cons_zero, List.set_cons_succ])
            refine wpAnyH_one (by kernel_rfl) (fun _ _ _ _ _ h => h) (by assumption) 24 31 (some 64) ?_ _ (by rfl) (by rfl) (by kernel_rfl) (by rfl) ?_ ?_
            rotate_left 1
            · intro W hSw
              (try dsimp only at hSw)
              go_simp
              (try with_reducible rfl)
            (try simp only [Act.put, List.setIfInBounds_toArray, List.set_cons_zero, List.set_cons_succ])
            refine wpAnyH_puts (by kernel_rfl) (fun _ _ _ _ _ h => h) (by assumption) [25, 26] 29 [(some 65, .slice (some ⟨bl, ol, none⟩) kL cL), (some 66, .int .i64 (k : Int))] (by kernel_rfl) (by kernel_rfl) ?_
            (try simp only [putsOf, Act.put, List.setIfInBounds_toArray, List.set_cons_zero, List.set_cons_succ])
            refine wpAnyH_one (by kernel_rfl) (fun _ _ _ _ _ h => h) (by assumption) 27 28 (some 67) ?_ _ (by rfl) (by rfl) (by kernel_rfl) (by rfl) ?_ ?_
            rotate_left 1
            · intro W hSw
              (try dsimp only at hSw)
              go_simp
              (try with_reducible rfl)
            (try simp only [Act.put, List.setIfInBounds_toArray, List.set_cons_zero, List.set_cons_succ])
            refine wpAnyH_one (by kernel_rfl) (fun _ _ _ _ _ h => h) (by assumption) 28 27 (some 68) ?_ _ (by rfl) (by rfl) (by kernel_rfl) (by rfl) ?_ ?_
            rotate_left 1
            · intro W hSw
              (try dsimp only at hSw)
              go_simp
              (try with_reducible rfl)
            (try simp only [Act.put, List.setIfInBounds_toArray, List.set_cons_zero, List.set_cons_succ])
            refine wpAnyH_one (by kernel_rfl) (fun _ _ _ _ _ h => h) (by assumption) 29 26 (some 69) ?_ _ (by rfl) (by rfl) (by kernel_rfl) (by rfl) ?_ ?_
            rotate_left 1
            · intro W hSw
              (try dsimp only at hSw)
              go_simp
              (try with_reducible rfl)
            (try simp only [Act.put, List.setIfInBounds_toArray, List.set_cons_zero, List.set_cons_succ])
            refine wpAnyH_one (by kernel_rfl) (fun _ _ _ _ _ h => h) (by assumption) 30 25 (some 70) ?_ _ (by rfl) (by rfl) (by kernel_rfl) (by rfl) ?_ ?_
            rotate_left 1
            · intro W hSw
              (try dsimp only at hSw)
              go_simp
              (try with_reducible rfl)
            (try simp only [Act.put, List.setIfInBounds_toArray, List.set_cons_zero, List.set_cons_succ])
            refine wpAnyH_one (by kernel_rfl) (fun _ _ _ _ _ h => h) (by assumption) 31 24 (some 71) ?_ _ (by rfl) (by rfl) (by kernel_rfl) (by rfl) ?_ ?_
            rotate_left 1
            · intro W hSw
              (try dsimp only at hSw)
              go_simp
              (try with_reducible rfl)
            (try simp only [Act.put, List.setIfInBounds_toArray, List.set_cons_zero, List.set_cons_succ])
            refine wpAnyH_puts (by kernel_rfl) (fun _ _ _ _ _ h => h) (by assumption) [32] 23 [(some 72, .bool false)] (by kernel_rfl) (by kernel_rfl) ?_
            (try simp only [putsOf, Act.put, List.setIfInBounds_toArray, List.set_cons_zero, List.set_cons_succ])
            refine wpAnyH_one (by kernel_rfl) (fun _ _ _ _ _ h => h) (by assumption) 33 22 (some 73) ?_ _ (by rfl) (by rfl) (by kernel_rfl) (by rfl) ?_ ?_
            rotate_left 1
            · intro W hSw
              (try dsimp only at hSw)
              go_simp
              (try with_reducible rfl)
            (try simp only [Act.put, List.setIfInBounds_toArray, List.set_cons_zero, List.set_cons_succ])
            refine wpAnyH_one (by kernel_rfl) (fun _ _ _ _ _ h => h) (by assumption) 34 21 (some 74) ?_ _ (by rfl) (by rfl) (by kernel_rfl) (by rfl) ?_ ?_
            rotate_left 1
            · intro W hSw
              (try dsimp only at hSw)
              go_simp
              (try with_reducible rfl)
            (try simp only [Act.put, List.setIfInBounds_toArray, List.set_cons_zero, List.set_cons_succ])
            refine wpAnyH_puts (by kernel_rfl) (fun _ _ _ _ _ h => h) (by assumption) [35, 36] 19 [(some 75, .slice (some ⟨bl, ol, none⟩) kL cL), (some 76, .int .i64 (k : Int))] (by kernel_rfl) (by kernel_rfl) ?_
            (try simp only [putsOf, Act.put, List.setIfInBounds_toArray, List.set_cons_zero, List.set_cons_succ])
            refine wpAnyH_one (by kernel_rfl) (fun _ _ _ _ _ h => h) (by assumption) 37 18 (some 77) ?_ _ (by rfl) (by rfl) (by kernel_rfl) (by rfl) ?_ ?_
            rotate_left 1
            · intro W hSw
              (try dsimp only at hSw)
              go_simp
              (try with_reducible rfl)
            (try simp only [Act.put, List.setIfInBounds_toArray, List.set_cons_zero, List.set_cons_succ])
            refine wpAnyH_one (by kernel_rfl) (fun _ _ _ _ _ h => h) (by assumption) 38 17 (some 78) ?_ _ (by rfl) (by rfl) (by kernel_rfl) (by rfl) ?_ ?_
            rotate_left 1
            · intro W hSw
              (try dsimp only at hSw)
              go_simp
              (try with_reducible rfl)
            (try simp only [Act.put, List.setIfInBounds_toArray, List.set_cons_zero, List.set_cons_succ])
            refine wpAnyH_one (by kernel_rfl) (fun _ _ _ _ _ h => h) (by assumption) 39 16 (some 79) ?_ _ (by rfl) (by rfl) (by kernel_rfl) (by rfl) ?_ ?_
            rotate_left 1
            · intro W hSw
              (try dsimp only at hSw)
              go_simp
              (try with_reducible rfl)
            (try simp only [Act.put, List.setIfInBounds_toArray, List.set_cons_zero, List.set_cons_succ])
            refine wpAnyH_one (by kernel_rfl) (fun _ _ _ _ _ h => h) (by assumption) 40 15 (some 80) ?_ _ (by rfl) (by rfl) (by kernel_rfl) (by rfl) ?_ ?_
            rotate_left 1
            · intro W hSw
              (try dsimp only at hSw)
              go_simp
              (try with_reducible rfl)
            (try simp only [Act.put, List.setIfInBounds_toArray, List.set_cons_zero, List.set_cons_succ])
            refine wpAnyH_one (by kernel_rfl) (fun _ _ _ _ _ h => h) (by assumption) 41 14 (some 81) ?_ _ (by rfl) (by rfl) (by kernel_rfl) (by rfl) ?_ ?_
            rotate_left 1
            · intro W hSw
              (try dsimp only at hSw)
              go_simp
              (try with_reducible rfl)
            (try simp only [Act.put, List.setIfInBounds_toArray, List.set_cons_zero, List.set_cons_succ])
            refine wpAnyH_puts (by kernel_rfl) (fun _ _ _ _ _ h => h) (by assumption) [42] 13 [(some 82, .bool true)] (by kernel_rfl) (by kernel_rfl) ?_
            (try simp only [putsOf, Act.put, List.setIfInBounds_toArray, List.set_cons_zero, List.set_cons_succ])
            refine wpAnyH_one (by kernel_rfl) (fun _ _ _ _ _ h => h) (by assumption) 43 12 (some 83) ?_ _ (by rfl) (by rfl) (by kernel_rfl) (by rfl) ?_ ?_
            rotate_left 1
            · intro W hSw
              (try dsimp only at hSw)
              go_simp
              (try with_reducible rfl)
            (try simp only [Act.put, List.setIfInBounds_toArray, List.set_cons_zero, List.set_cons_succ])
            refine wpAnyH_one (by kernel_rfl) (fun _ _ _ _ _ h => h) (by assumption) 44 11 (some 84) ?_ _ (by rfl) (by rfl) (by kernel_rfl) (by rfl) ?_ ?_
            rotate_left 1
            · intro W hSw
              (try dsimp only at hSw)
              go_simp
              (try with_reducible rfl)
            (try simp only [Act.put, List.setIfInBounds_toArray, List.set_cons_zero, List.set_cons_succ])
            refine wpAnyH_puts (by kernel_rfl) (fun _ _ _ _ _ h => h) (by assumption) [45, 46] 9 [(some 85, .slice (some ⟨bl, ol, none⟩) kL cL), (some 86, .int .i64 (k : Int))] (by kernel_rfl) (by kernel_rfl) ?_
            (try simp only [putsOf, Act.put, List.setIfInBounds_toArray, List.set_cons_zero, List.set_cons_succ])
            refine wpAnyH_one (by kernel_rfl) (fun _ _ _ _ _ h => h) (by assumption) 47 8 (some 87) ?_ _ (by rfl) (by rfl) (by kernel_rfl) (by rfl) ?_ ?_
            rotate_left 1
            · intro W hSw
              (try dsimp only at hSw)
              go_simp
              (try with_reducible rfl)
            (try simp only [Act.put, List.setIfInBounds_toArray, List.set_cons_zero, List.set_cons_succ])
            refine wpAnyH_one (by kernel_rfl) (fun _ _ _ _ _ h => h) (by assumption) 48 7 (some 88) ?_ _ (by rfl) (by rfl) (by kernel_rfl) (by rfl) ?_ ?_
            rotate_left 1
            · intro W hSw
              (try dsimp only at hSw)
              go_simp
              (try with_reducible rfl)
            (try simp only [Act.put, List.setIfInBounds_toArray, List.set_cons_zero, List.set_cons_succ])
            refine wpAnyH_one (by kernel_rfl) (fun _ _ _ _ _ h => h) (by assumption) 49 6 (some 89) ?_ _ (by rfl) (by rfl) (by kernel_rfl) (by rfl) ?_ ?_
            rotate_left 1
            · intro W hSw
              (try dsimp only at hSw)
              go_simp
              (try with_reducible rfl)
            (try simp only [Act.put, List.setIfInBounds_toArray, List.set_cons_zero, List.set_cons_succ])
            refine wpAnyH_one (by kernel_rfl) (fun _ _ _ _ _ h => h) (by assumption) 50 5 (some 90) ?_ _ (by rfl) (by rfl) (by kernel_rfl) (by rfl) ?_ ?_
            rotate_left 1
            · intro W hSw
              (try dsimp only at hSw)
              go_simp
              (try with_reducible rfl)
            (try simp only [Act.put, List.setIfInBounds_toArray, List.set_cons_zero, List.set_cons_succ])
            refine wpAnyH_one (by kernel_rfl) (fun _ _ _ _ _ h => h) (by assumption) 51 4 (some 91) ?_ _ (by rfl) (by rfl) (by kernel_rfl) (by rfl) ?_ ?_
            rotate_left 1
            · intro W hSw
              (try dsimp only at hSw)
              go_simp
              (try with_reducible rfl)
            (try simp only [Act.put, List.setIfInBounds_toArray, List.set_cons_zero, List.set_cons_succ])
            refine wpAnyH_puts (by kernel_rfl) (fun _ _ _ _ _ h => h) (by assumption) [52, 53, 54, 55] 0 [(some 92, .bool false), (some 93, .bool false), (some 94, .bool false), (some 95, .bool false)] (by kernel_rfl) (by kernel_rfl) ?_
            (try simp only [putsOf, Act.put, List.setIfInBounds_toArray, List.set_cons_zero, List.set_cons_succ])
            refine wpAnyH_done (by kernel_rfl) ?_ _
            refine NoPanic.normal ?_
            (try simp only [Act.put, List.setIfInBounds_toArray, List.set_cons_zero, List.set_cons_succ])
            obtain ⟨BE, HVE, e0, e1, _, _⟩ := hHeld
            clear z0 z1 B6 RV6
            go_wp2_with fail
            refine (vecSet_is hV.out hkV.out HVE.out hp4).mono ?_
            rintro e w7 ⟨X2, c2, rfl, r2, b2⟩
            go_wp2
            exact ⟨⟨k + 1, X2, kV, c2, V, by go_num, rfl, by omega, hkV4, hkV, HNX, r2, below_then BE b2⟩, by simp [intOf]; omega⟩
          · have hbn : ((i : Int) + 1 == d1) = false := by simpa using he
            have hl0b : ¬ (i : Int) + 1 < d1 := by omega
            have hl0 : decide ((i : Int) + 1 < d1) = false := decide_eq_false hl0b
            clear hsd he
            refine wp_region_noPanic ?_
            refine wp_region_held_drew (S := (fun W => Below w5.heap.size w5 W ∧ Hid (Rd W X p q (vals .i64 v)) ∧ W.cell? ⟨g, 0, none⟩ = some (.int .i64 ((i : Int) + 1)) ∧ W.cell? ⟨g, 1, none⟩ = some (.int .i64 s) ∧ W.cell? ⟨bl, ol + k1 * 2, none⟩ = some (.int .i64 d1) ∧ W.cell? ⟨bl, ol + k1 * 2 + 1, none⟩ = some (.int .i64 s1))) (by kernel_rfl) ?_ (fun hHeld => ?_)
            · exact ⟨B6.drew, RV6.out.drew, z0, z1, p0, p1⟩
            refine wpAnyH_puts (by kernel_rfl) (fun _ _ _ _ _ h => h) (by assumption) [0] 55 [(some 40, .slice A n c)] (by kernel_rfl) (by kernel_rfl) ?_
            (try simp only [putsOf, Act.put, List.setIfInBounds_toArray, List.set_cons_zero, List.set_cons_succ])
            refine wpAnyH_one (by kernel_rfl) (fun _ _ _ _ _ h => h) (by assumption) 1 54 (some 41) ?_ _ (by rfl) (by rfl) (by kernel_rfl) (by rfl) ?_ ?_
            rotate_left 1
            · intro W hSw
              (try dsimp only at hSw)
              go_simp
              (try with_reducible rfl)
            (try simp only [Act.put, List.setIfInBounds_toArray, List.set_cons_zero, List.set_cons_succ])
            refine wpAnyH_ready (rs := [2]) (by kernel_rfl) (by simp) (AllReadyH.cons rfl (fun K hK => ?_) AllReadyH.nil)
            go_simp
            refine (is_bool (r := false) hHA.out (vecHas_any A n c a _ _ _ (RA.out.below hHeld.1))).mono ?_
            rintro e wx ⟨rfl, bb⟩
            (try go_wp2_with fail)
            refine hK.out _ _ ?_ (fun hHeld => ?_)
            · (try dsimp only)
              exact ⟨below_then hHeld.1 bb, hHeld.2.1.out.below bb, (bb.cell (World.block_lt_of_cell? _ _ hHeld.2.2.1)).trans hHeld.2.2.1, (bb.cell (World.block_lt_of_cell? _ _ hHeld.2.2.2.1)).trans hHeld.2.2.2.1, (bb.cell (World.block_lt_of_cell? _ _ hHeld.2.2.2.2.1)).trans hHeld.2.2.2.2.1, (bb.cell (World.block_lt_of_cell? _ _ hHeld.2.2.2.2.2)).trans hHeld.2.2.2.2.2⟩
            clear hK K
            (try simp only [Act.put, List.setIfInBounds_toArray, List.set_cons_zero, List.set_cons_succ])
            refine wpAnyH_puts (by kernel_rfl) (fun _ _ _ _ _ h => h) (by assumption) [3, 4] 51 [(some 43, .bool false), (some 44, .slice B m d)] (by kernel_rfl) (by kernel_rfl) ?_
            (try simp only [putsOf, Act.put, List.setIfInBounds_toArray, List.set_cons_zero, List.set_cons_succ])
            refine wpAnyH_one (by kernel_rfl) (fun _ _ _ _ _ h => h) (by assumption) 5 50 (some 45) ?_ _ (by rfl) (by rfl) (by kernel_rfl) (by rfl) ?_ ?_
            rotate_left 1
            · intro W hSw
              (try dsimp only at hSw)
              go_simp
              (try with_reducible rfl)
            (try simp only [Act.put, List.setIfInBounds_toArray, List.set_cons_zero, List.set_cons_succ])
            refine wpAnyH_ready (rs := [6]) (by kernel_rfl) (by simp) (AllReadyH.cons rfl (fun K hK => ?_) AllReadyH.nil)
            go_simp
            refine (is_bool (r := true) hHB.out (vecHas_any B m d b _ _ _ (RB.out.below hHeld.1))).mono ?_
            rintro e wx ⟨rfl, bb⟩
            (try go_wp2_with fail)
            refine hK.out _ _ ?_ (fun hHeld => ?_)
            · (try dsimp only)
              exact ⟨below_then hHeld.1 bb, hHeld.2.1.out.below bb, (bb.cell (World.block_lt_of_cell? _ _ hHeld.2.2.1)).trans hHeld.2.2.1, (bb.cell (World.block_lt_of_cell? _ _ hHeld.2.2.2.1)).trans hHeld.2.2.2.1, (bb.cell (World.block_lt_of_cell? _ _ hHeld.2.2.2.2.1)).trans hHeld.2.2.2.2.1, (bb.cell (World.block_lt_of_cell? _ _ hHeld.2.2.2.2.2)).trans hHeld.2.2.2.2.2⟩
            clear hK K
            (try simp only [Act.put, List.setIfInBounds_toArray, List.set_cons_zero, List.set_cons_succ])
            refine wpAnyH_one (by kernel_rfl) (fun _ _ _ _ _ h => h) (by assumption) 7 48 (some 47) ?_ _ (by rfl) (by rfl) (by kernel_rfl) (by rfl) ?_ ?_
            rotate_left 1
            · intro W hSw
              (try dsimp only at hSw)
              go_simp
              (try with_reducible rfl)
            (try simp only [Act.put, List.setIfInBounds_toArray, List.set_cons_zero, List.set_cons_succ])
            refine wpAnyH_puts (by kernel_rfl) (fun _ _ _ _ _ h => h) (by assumption) [8, 9, 10] 45 [(some 48, .bool false), (some 49, .bool false), (some 50, .slice X p q)] (by kernel_rfl) (by kernel_rfl) ?_
            (try simp only [putsOf, Act.put, List.setIfInBounds_toArray, List.set_cons_zero, List.set_cons_succ])
            refine wpAnyH_one (by kernel_rfl) (fun _ _ _ _ _ h => h) (by assumption) 11 44 (some 51) ?_ _ (by rfl) (by rfl) (by kernel_rfl) (by rfl) ?_ ?_
            rotate_left 1
            · intro W hSw
              (try dsimp only at hSw)
              go_simp
              (try with_reducible rfl)
            (try simp only [Act.put, List.setIfInBounds_toArray, List.set_cons_zero, List.set_cons_succ])
            refine wpAnyH_one (by kernel_rfl) (fun _ _ _ _ _ h => h) (by assumption) 12 43 (some 52) ?_ _ (by rfl) (by rfl) (by kernel_rfl) (by rfl) ?_ ?_
            rotate_left 1
            · intro W hSw
              (try dsimp only at hSw)
              go_simp
              (try with_reducible rfl)
            (try simp only [Act.put, List.setIfInBounds_toArray, List.set_cons_zero, List.set_cons_succ])
            refine wpAnyH_one (by kernel_rfl) (fun _ _ _ _ _ h => h) (by assumption) 14 42 (some 54) ?_ _ (by rfl) (by rfl) (by kernel_rfl) (by rfl) ?_ ?_
            rotate_left 1
            · intro W hSw
              (try dsimp only at hSw)
              go_simp
              (try with_reducible rfl)
            (try simp only [Act.put, List.setIfInBounds_toArray, List.set_cons_zero, List.set_cons_succ])
            refine wpAnyH_one (by kernel_rfl) (fun _ _ _ _ _ h => h) (by assumption) 15 41 (some 55) ?_ _ (by rfl) (by rfl) (by kernel_rfl) (by rfl) ?_ ?_
            rotate_left 1
            · intro W hSw
              (try dsimp only at hSw)
              go_simp
              (try with_reducible rfl)
            (try simp only [Act.put, List.setIfInBounds_toArray, List.set_cons_zero, List.set_cons_succ])
            refine wpAnyH_one (by kernel_rfl) (fun _ _ _ _ _ h => h) (by assumption) 16 40 (some 56) ?_ _ (by rfl) (by rfl) (by kernel_rfl) (by rfl) ?_ ?_
            rotate_left 1
            · intro W hSw
              (try dsimp only at hSw)
              go_simp
              (try with_reducible rfl)
            (try simp only [Act.put, List.setIfInBounds_toArray, List.set_cons_zero, List.set_cons_succ])
            refine wpAnyH_ready (rs := [13]) (by kernel_rfl) (by simp) (AllReadyH.cons rfl (fun K hK => ?_) AllReadyH.nil)
            go_simp
            refine (is_int HOF.out (vecOf_any X p q v _ _ hHeld.2.1.out)).mono ?_
            rintro e wx ⟨rfl, hw⟩
            have bb := same_below hw
            clear hw
            (try go_wp2_with fail)
            refine hK.out _ _ ?_ (fun hHeld => ?_)
            · (try dsimp only)
              exact ⟨below_then hHeld.1 bb, hHeld.2.1.out.below bb, (bb.cell (World.block_lt_of_cell? _ _ hHeld.2.2.1)).trans hHeld.2.2.1, (bb.cell (World.block_lt_of_cell? _ _ hHeld.2.2.2.1)).trans hHeld.2.2.2.1, (bb.cell (World.block_lt_of_cell? _ _ hHeld.2.2.2.2.1)).trans hHeld.2.2.2.2.1, (bb.cell (World.block_lt_of_cell? _ _ hHeld.2.2.2.2.2)).trans hHeld.2.2.2.2.2⟩
            clear hK K
            (try simp only [Act.put, List.setIfInBounds_toArray, List.set_cons_zero, List.set_cons_succ])
            refine wpAnyH_one (by kernel_rfl) (fun _ _ _ _ _ h => h) (by assumption) 17 38 (some 57) ?_ _ (by rfl) (by rfl) (by kernel_rfl) (by rfl) ?_ ?_
            rotate_left 1
            · intro W hSw
              (try dsimp only at hSw)
              go_simp
              (try with_reducible rfl)
            (try simp only [Act.put, List.setIfInBounds_toArray, List.set_cons_zero, List.set_cons_succ])
            refine wpAnyH_puts (by kernel_rfl) (fun _ _ _ _ _ h => h) (by assumption) [18, 19, 20] 35 [(some 58, .bool false), (some 59, .bool false), (some 60, .int .i64 (k : Int))] (by kernel_rfl) (by kernel_rfl) ?_
            (try simp only [putsOf, Act.put, List.setIfInBounds_toArray, List.set_cons_zero, List.set_cons_succ])
            refine wpAnyH_one (by kernel_rfl) (fun _ _ _ _ _ h => h) (by assumption) 21 34 (some 61) ?_ _ (by rfl) (by rfl) (by kernel_rfl) (by rfl) ?_ ?_
            rotate_left 1
            · intro W hSw
              (try dsimp only at hSw)
              go_simp
              (try with_reducible rfl)
            (try simp only [Act.put, List.setIfInBounds_toArray, List.set_cons_zero, List.set_cons_succ])
            refine wpAnyH_puts (by kernel_rfl) (fun _ _ _ _ _ h => h) (by assumption) [22] 33 [(some 62, .bool true)] (by kernel_rfl) (by kernel_rfl) ?_
            (try simp only [putsOf, Act.put, List.setIfInBounds_toArray, List.set_cons_zero, List.set_cons_succ])
            refine wpAnyH_one (by kernel_rfl) (fun _ _ _ _ _ h => h) (by assumption) 23 32 (some 63) ?_ _ (by rfl) (by rfl) (by kernel_rfl) (by rfl) ?_ ?_
            rotate_left 1
            · intro W hSw
              (try dsimp only at hSw)
              go_simp
              (try with_reducible rfl)
            (try simp only [Act.put, List.setIfInBounds_toArray, List.set_cons_zero, List.set_cons_succ])
            refine wpAnyH_one (by kernel_rfl) (fun _ _ _ _ _ h => h) (by assumption) 24 31 (some 64) ?_ _ (by rfl) (by rfl) (by kernel_rfl) (by rfl) ?_ ?_
            rotate_left 1
            · intro W hSw
              (try dsimp only at hSw)
              go_simp
              (try with_reducible rfl)
            (try simp only [Act.put, List.setIfInBounds_toArray, List.set_cons_zero, List.set_cons_succ])
            refine wpAnyH_puts (by kernel_rfl) (fun _ _ _ _ _ h => h) (by assumption) [25, 26] 29 [(some 65, .slice (some ⟨bl, ol, none⟩) kL cL), (some 66, .int .i64 (k : Int))] (by kernel_rfl) (by kernel_rfl) ?_
            (try simp only [putsOf, Act.put, List.setIfInBounds_toArray, List.set_cons_zero, List.set_cons_succ])
            refine wpAnyH_one (by kernel_rfl) (fun _ _ _ _ _ h => h) (by assumption) 27 28 (some 67) ?_ _ (by rfl) (by rfl) (by kernel_rfl) (by rfl) ?_ ?_
            rotate_left 1
            · intro W hSw
              (try dsimp only at hSw)
              go_simp
              (try with_reducible rfl)
            (try simp only [Act.put, List.setIfInBounds_toArray, List.set_cons_zero, List.set_cons_succ])
            refine wpAnyH_one (by kernel_rfl) (fun _ _ _ _ _ h => h) (by assumption) 28 27 (some 68) ?_ _ (by rfl) (by rfl) (by kernel_rfl) (by rfl) ?_ ?_
            rotate_left 1
            · intro W hSw
              (try dsimp only at hSw)
              go_simp
              (try with_reducible rfl)
            (try simp only [Act.put, List.setIfInBounds_toArray, List.set_cons_zero, List.set_cons_succ])
            refine wpAnyH_one (by kernel_rfl) (fun _ _ _ _ _ h => h) (by assumption) 29 26 (some 69) ?_ _ (by rfl) (by rfl) (by kernel_rfl) (by rfl) ?_ ?_
            rotate_left 1
            · intro W hSw
              (try dsimp only at hSw)
              go_simp
              (try with_reducible rfl)
            (try simp only [Act.put, List.setIfInBounds_toArray, List.set_cons_zero, List.set_cons_succ])
            refine wpAnyH_one (by kernel_rfl) (fun _ _ _ _ _ h => h) (by assumption) 30 25 (some 70) ?_ _ (by rfl) (by rfl) (by kernel_rfl) (by rfl) ?_ ?_
            rotate_left 1
            · intro W hSw
              (try dsimp only at hSw)
              go_simp
              (try with_reducible rfl)
            (try simp only [Act.put, List.setIfInBounds_toArray, List.set_cons_zero, List.set_cons_succ])
            refine wpAnyH_one (by kernel_rfl) (fun _ _ _ _ _ h => h) (by assumption) 31 24 (some 71) ?_ _ (by rfl) (by rfl) (by kernel_rfl) (by rfl) ?_ ?_
            rotate_left 1
            · intro W hSw
              (try dsimp only at hSw)
              go_simp
              (try with_reducible rfl)
            (try simp only [Act.put, List.setIfInBounds_toArray, List.set_cons_zero, List.set_cons_succ])
            refine wpAnyH_puts (by kernel_rfl) (fun _ _ _ _ _ h => h) (by assumption) [32] 23 [(some 72, .bool false)] (by kernel_rfl) (by kernel_rfl) ?_
            (try simp only [putsOf, Act.put, List.setIfInBounds_toArray, List.set_cons_zero, List.set_cons_succ])
            refine wpAnyH_one (by kernel_rfl) (fun _ _ _ _ _ h => h) (by assumption) 33 22 (some 73) ?_ _ (by rfl) (by rfl) (by kernel_rfl) (by rfl) ?_ ?_
            rotate_left 1
            · intro W hSw
              (try dsimp only at hSw)
              go_simp
              (try with_reducible rfl)
            (try simp only [Act.put, List.setIfInBounds_toArray, List.set_cons_zero, List.set_cons_succ])
            refine wpAnyH_one (by kernel_rfl) (fun _ _ _ _ _ h => h) (by assumption) 34 21 (some 74) ?_ _ (by rfl) (by rfl) (by kernel_rfl) (by rfl) ?_ ?_
            rotate_left 1
            · intro W hSw
              (try dsimp only at hSw)
              go_simp
              (try with_reducible rfl)
            (try simp only [Act.put, List.setIfInBounds_toArray, List.set_cons_zero, List.set_cons_succ])
            refine wpAnyH_puts (by kernel_rfl) (fun _ _ _ _ _ h => h) (by assumption) [35, 36] 19 [(some 75, .slice (some ⟨bl, ol, none⟩) kL cL), (some 76, .int .i64 (k : Int))] (by kernel_rfl) (by kernel_rfl) ?_
            (try simp only [putsOf, Act.put, List.setIfInBounds_toArray, List.set_cons_zero, List.set_cons_succ])
            refine wpAnyH_one (by kernel_rfl) (fun _ _ _ _ _ h => h) (by assumption) 37 18 (some 77) ?_ _ (by rfl) (by rfl) (by kernel_rfl) (by rfl) ?_ ?_
            rotate_left 1
            · intro W hSw
              (try dsimp only at hSw)
              go_simp
              (try with_reducible rfl)
            (try simp only [Act.put, List.setIfInBounds_toArray, List.set_cons_zero, List.set_cons_succ])
            refine wpAnyH_one (by kernel_rfl) (fun _ _ _ _ _ h => h) (by assumption) 38 17 (some 78) ?_ _ (by rfl) (by rfl) (by kernel_rfl) (by rfl) ?_ ?_
            rotate_left 1
            · intro W hSw
              (try dsimp only at hSw)
              go_simp
              (try with_reducible rfl)
            (try simp only [Act.put, List.setIfInBounds_toArray, List.set_cons_zero, List.set_cons_succ])
            refine wpAnyH_one (by kernel_rfl) (fun _ _ _ _ _ h => h) (by assumption) 39 16 (some 79) ?_ _ (by rfl) (by rfl) (by kernel_rfl) (by rfl) ?_ ?_
            rotate_left 1
            · intro W hSw
              (try dsimp only at hSw)
              go_simp
              (try with_reducible rfl)
            (try simp only [Act.put, List.setIfInBounds_toArray, List.set_cons_zero, List.set_cons_succ])
            refine wpAnyH_one (by kernel_rfl) (fun _ _ _ _ _ h => h) (by assumption) 40 15 (some 80) ?_ _ (by rfl) (by rfl) (by kernel_rfl) (by rfl) ?_ ?_
            rotate_left 1
            · intro W hSw
              (try dsimp only at hSw)
              go_simp
              (try with_reducible rfl)
            (try simp only [Act.put, List.setIfInBounds_toArray, List.set_cons_zero, List.set_cons_succ])
            refine wpAnyH_one (by kernel_rfl) (fun _ _ _ _ _ h => h) (by assumption) 41 14 (some 81) ?_ _ (by rfl) (by rfl) (by kernel_rfl) (by rfl) ?_ ?_
            rotate_left 1
            · intro W hSw
              (try dsimp only at hSw)
              go_simp
              (try with_reducible rfl)
            (try simp only [Act.put, List.setIfInBounds_toArray, List.set_cons_zero, List.set_cons_succ])
            refine wpAnyH_puts (by kernel_rfl) (fun _ _ _ _ _ h => h) (by assumption) [42, 43, 44, 45, 46, 47, 48, 49, 50, 51, 52, 53, 54, 55] 0 [(some 82, .bool false), (some 83, undef), (some 84, undef), (some 85, undef), (some 86, undef), (some 87, undef), (some 88, undef), (some 89, undef), (some 90, undef), (some 91, undef), (some 92, .bool false), (some 93, .bool false), (some 94, .bool false), (some 95, .bool false)] (by kernel_rfl) (by kernel_rfl) ?_
            (try simp only [putsOf, Act.put, List.setIfInBounds_toArray, List.set_cons_zero, List.set_cons_succ])
            refine wpAnyH_done (by kernel_rfl) ?_ _
            refine NoPanic.normal ?_
            (try simp only [Act.put, List.setIfInBounds_toArray, List.set_cons_zero, List.set_cons_succ])
            obtain ⟨BE, HVE, e0, e1, _, _⟩ := hHeld
            clear z0 z1 B6 RV6
            go_wp2_with fail
            refine (vecSet_is hV.out hkV.out HVE.out hp4).mono ?_
            rintro e w7 ⟨X2, c2, rfl, r2, b2⟩
            go_wp2
            exact ⟨⟨k + 1, X2, kV, c2, V, by go_num, rfl, by omega, hkV4, hkV, HNX, r2, below_then BE b2⟩, by simp [intOf]; omega⟩

theorem contract (H : Type) (enc : TypeId × Value → H) (W : World) (base : Nat) (args : Array Value) (ds gs : List (DataW H)) (before : List MemPlace)
    (hval : ∀ (j : Nat) t v, Try.f9.params[j]? = some t → args[j]? = some v → Value.okWide Try.prog W .any base t v)
    (hW : DataW.Whole enc Try.prog Try.f9.params.toList Rows.vectorAllSpec.vars false W args.toList ds gs before) :
    Calls Try.prog 9 args W fun e W' => ∃ v, e = .returned v ∧ Rows.vectorAllSpec.post enc Try.prog Try.f9 false true false false W args v W' := by
  have hlt : ∀ x ∈ before, x.block < W.heap.size := fun x hx => by simpa using hW.lt x hx
  refine law_step 4 Try.laid_ (by kernel_rfl) rfl Try.underlying4 rfl hW (fun xs hx => ?_) ?_
  · match xs, hx with
    | [d0, d1], _ => rfl
  · obtain ⟨p, q, hA0, hV, rfl, _, _⟩ := hW
    have hA : DataW.TrodAll enc Try.prog W 0 (fun _ => true) true Try.f9.params.toList args.toList ds p := hA0
    rw [Try.params9] at hA hval
    obtain ⟨v0, vs0, d0, ds0, p0, q0, e0, rfl, rfl, h0, r0⟩ := trodAll_cons hA
    obtain ⟨v1, vs1, d1, ds1, p1, q1, e1, rfl, rfl, h1, r1⟩ := trodAll_cons r0
    obtain ⟨rfl, rfl, rfl⟩ := trodAll_nil r1
    subst e1
    obtain rfl : args = #[v0, v1] := by cases args; simp_all
    clear e0 hA0
    obtain ⟨A0, n0, c0, a, rfl, rd0, wf0⟩ := open_vec (hval 0 23 v0 rfl rfl) h0 (fun x hx => hlt x (by simp [hx]))
    obtain ⟨A1, n1, c1, b, rfl, rd1, wf1⟩ := open_vec (hval 1 23 v1 rfl rfl) h1 (fun x hx => hlt x (by simp [hx]))
    exact walk A0 A1 n0 c0 n1 c1 a b W rd0 rd1

set_option maxRecDepth 100000 in
theorem lifted (os : Os) (started : os.Started) (H : Type) (enc : TypeId × Value → H) :
    ReturnsInHanded {} Try.checked os 9 .any (Rows.vectorAllSpec.pre6 enc Try.prog Try.f9 Rows.vectorAllRow.domain false) (Rows.vectorAllSpec.post enc Try.prog Try.f9 false true false false) := by
  refine returnsInHanded_of_change (C := Try.checked) Try.own_ started (by kernel_rfl) Try.func9
    (ChangeSpec.witness6 (enc := enc) (C := Try.checked) false ⟨#[], #[.slice none 0 0, .slice none 0 0], []⟩ 8 (by kernel_rfl) (by kernel_rfl) (by kernel_rfl) (by kernel_rfl)) ?_
  intro W base args ds gs before hval hW _ _
  exact contract H enc W base args ds gs before hval hW

theorem holds : Rows.VectorAllSaid :=
  OpenClaim.holds_of_wide 9 Try.f9 rfl rfl rfl rfl rfl rfl rfl ⟨rfl, rfl, rfl, rfl, rfl⟩ rfl rfl rfl rfl rfl (by kernel_rfl) Try.func9 (by kernel_rfl)
    (of_decide_eq_true (by kernel_rfl)) (by unfold Func.isWrapper; first | (rw [if_pos (by decide +kernel)]; kernel_rfl) | (rw [if_neg (by decide +kernel)]; exact ⟨rfl, rfl⟩))
    (fun os started H enc _ => lifted os started H enc)
end Go.Proofs.Ytefbgbciaiedeaa.vectorAll
