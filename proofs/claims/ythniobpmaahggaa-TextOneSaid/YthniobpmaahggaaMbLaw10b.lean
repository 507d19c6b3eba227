/- Whatever parts come in: TextOne answers true: whole parts stand in one order, however they came, each behind its parent. No condition. -/
import Derived.Test.YthniobpmaahggaaRows
import Derived.Test.YthniobpmaahggaaMbBase
import Derived.Test.YthniobpmaahggaaMbTxtAlive
import Derived.Test.YthniobpmaahggaaMbOpen
import Derived.Test.YthniobpmaahggaaMbVecDot
import Derived.Test.YthniobpmaahggaaMbMul
namespace Go.Proofs.Ythniobpmaahggaa.textOne
open Go.ChangeShapes Go.WideShapes Go.ChangeAt Go.RowKit Go.ChangeMaps

set_option maxRecDepth 100000 in
theorem open_parts {H : Type} {enc : TypeId × Value → H} {W : World} {base : Nat} {v : Value} {d : DataW H} {ps : List MemPlace} (hval : Value.okWide Try.prog W .any base 24 v) (h : DataW.Trod enc Try.prog W 0 (fun _ => true) true 24 v d ps) :
    ∃ A n c l, v = .slice A n c ∧ RdP W A n c l ∧ ∀ x ∈ l, x.wf :=
  open_sg (α := P11) Try.underlying24 Try.cellsPart part_cells hval h (by decide)

theorem orderT_perm {l l' : List P11} (hp : l.Perm l') : orderT l = orderT l' := by
  unfold orderT
  rw [hp.length_eq]
  split
  · rfl
  · by_cases hw : WholeT l
    · rw [if_pos hw, if_pos (hw.perm hp), ordT_of_perm hw hp]
    · rw [if_neg hw, if_neg (fun k => hw (k.perm hp.symm))]
theorem orderT_whole {l : List P11} (h : orderT l ≠ []) : WholeT l ∧ ¬ 2000 < l.length ∧ orderT l = ordT l := by
  unfold orderT at *
  split at h
  · exact absurd rfl h
  · rename_i h2
    split at h
    · rename_i h3
      exact ⟨h3, h2, by rw [if_neg h2, if_pos h3]⟩
    · exact absurd rfl h
theorem orderT_twice {l : List P11} (h : orderT l ≠ []) : orderT (orderT l) = orderT l := by
  obtain ⟨hw, h2, he⟩ := orderT_whole h
  rw [he]
  unfold orderT
  rw [ordT_len hw, if_neg h2, if_pos (ordT_whole hw), ordT_twice hw]
theorem right_one {l : List P11} (h0 : l ≠ []) (h : orderT l = []) (hn : l.length ≤ 40) : rightT10 4 zeroT l = 1 := by
  have hw : ¬ WholeT l := by
    intro hw
    unfold orderT at h
    rw [if_neg (by omega), if_pos hw] at h
    have := ordT_len hw
    rw [h] at this
    exact h0 (List.length_eq_zero_iff.1 this.symm)
  unfold rightT10
  rw [if_pos rfl, if_neg (fun k => hw k.2)]
theorem right_ord {l : List P11} (h : orderT l ≠ []) : rightT10 4 zeroT (orderT l) = 0 := by
  obtain ⟨hw, h2, he⟩ := orderT_whole h
  rw [he]
  exact rightT10_ok.2 ⟨rfl, rfl, ordT_whole hw, by rw [ordT_len hw]; omega, ordT_twice hw⟩
theorem ord_up {l : List P11} (hw : WholeT l) {i : Nat} {x : P11} (hx : (ordT l)[i]? = some x) (hup : upN x ≠ zN) : ∃ j q, j < i ∧ (ordT l)[j]? = some q ∧ nm q = upN x := by
  have hxl : x ∈ l := (ordT_mem hw x).1 (List.mem_of_getElem? hx)
  rcases hw.2.2.2 x hxl with h | ⟨q, hq, hn, _⟩
  · exact absurd h hup
  obtain ⟨π, hπ⟩ := hw.path hq
  have hb : BefT l q x := ⟨π, π ++ [x], hπ, .step hxl hn hup hπ, lexT_pre π x []⟩
  obtain ⟨j, hj⟩ := List.getElem?_of_mem ((ordT_mem hw q).2 hq)
  refine ⟨j, q, ?_, hj, hn⟩
  rcases Nat.lt_trichotomy j i with h | h | h
  · exact h
  · subst h; rw [hx] at hj; cases hj; exact absurd rfl (hb.ne hw)
  · obtain ⟨hi, ei⟩ := List.getElem?_eq_some_iff.1 hx
    obtain ⟨hk, ej⟩ := List.getElem?_eq_some_iff.1 hj
    have hs := List.pairwise_iff_getElem.1 (ordT_sorted hw) i j hi hk h
    rw [ei, ej] at hs
    exact (hb.asym hw hs).elim
theorem up_of {l : List P11} (h : orderT l ≠ []) {i : Nat} {x : P11} (hx : (orderT l)[i]? = some x) : x.a = ⟨0, 0⟩ ∨ ∃ j y, j < i ∧ (orderT l)[j]? = some y ∧ y.d = x.a ∧ y.i = x.j := by
  obtain ⟨hw, h2, he⟩ := orderT_whole h
  rw [he] at hx ⊢
  by_cases hup : upN x = zN
  · exact .inl (by simp [upN, zN] at hup; exact hup.1)
  · obtain ⟨j, q, h1, h3, h4⟩ := ord_up hw hx hup
    simp only [nm, upN, N3.mk.injEq] at h4
    exact .inr ⟨j, q, h1, h3, h4.1, h4.2⟩

set_option maxRecDepth 100000 in
set_option maxHeartbeats 12800000 in
theorem walk (A : Option Addr) (n c : Nat) (l : List P11) (w : World) (h : RdP w A n c l) :
    Calls Try.prog 4 #[.slice A n c] w fun e w' => e = .returned (.bool true) ∧ Below w.heap.size w w' := by
  have hle := h.le
  have hl := h.len
  have HH := Lib.hid h; have HL := Lib.hid hl
  clear h hl
  by_cases hn : n ≤ 40
  · have hnz : ¬ (40 : Int) < (n : Int) := by omega
    have hw0 : IntKind.i64.wrap ((n : Int) - 1) = (n : Int) - 1 := wrap_is (by omega)
    obtain ⟨r, hr⟩ : ∃ r, Hid (r = l.reverse) := ⟨_, rfl⟩
    have HRL : Hid (r.length = n) := by show _ = _; rw [hr.out, List.length_reverse]; exact HL.out
    obtain ⟨O, hO⟩ : ∃ O, Hid (orderT l = O) := ⟨_, rfl⟩
    obtain ⟨m, hm⟩ : ∃ m, Hid (O.length = m) := ⟨_, rfl⟩
    have OA : Hid (∀ W, Below w.heap.size w W → Calls Try.prog 15 #[.slice A n c] W fun e w' => ∃ A' c', e = .returned (.slice A' m c') ∧ RdP w' A' m c' O ∧ Below W.heap.size W w') := by
      intro W hW
      rw [← hm.out, ← hO.out]
      exact orderT_any A n c l W (HH.out.below hW) (by omega)
    have OB : Hid (∀ (A : Option Addr) (c : Nat) (W : World), RdP W A n c r → Calls Try.prog 15 #[.slice A n c] W fun e w' => ∃ A' c', e = .returned (.slice A' m c') ∧ RdP w' A' m c' O ∧ Below W.heap.size W w') := by
      intro A c W hW
      have h1 : orderT r = O := by rw [← hO.out, hr.out]; exact orderT_perm (List.reverse_perm l)
      rw [← hm.out, ← h1]
      exact orderT_any A n c r W hW (by omega)
    go_enter Try.func4, Try.ntmps4
    go_wp2_with fail
    refine (alive10_any _).mono ?_
    rintro e w1 ⟨rfl, b1⟩
    have HB1 := Lib.hid b1
    clear b1
    go_wp2_with fail
    refine (OA.out _ HB1.out).mono ?_
    rintro e w2 ⟨Aa, ca, rfl, ra, b2⟩
    have RA := Lib.hid ra
    have HB2 := Lib.hid (below_then HB1.out b2)
    have HH2 := Lib.hid (HH.out.below HB2.out)
    clear ra b2 HB1 OA HH
    go_wp2_with fail
    go_loopw [5, 6] (fun v u wr => ∃ (j : Nat) (z : Int) (s : Value), s = v ∧ u = .int .i64 z ∧ Hid (z + 1 + j = n) ∧ -1 ≤ z ∧ Hid (wr.ownsRow w2.heap.size 39 11 s j ((r.take j).flatMap P11.cells)) ∧ Below w2.heap.size w2 wr) (fun _ u _ => (intOf u + 1).toNat)
    case atStart => exact ⟨0, (n : Int) - 1, _, rfl, rfl, by show _ = _; omega, by omega, by show World.ownsRow _ _ _ _ _ _ _; simpa using World.ownsRow_nil _ _ _ _, Below.refl _ _⟩
    case round =>
      clear hw0
      obtain ⟨j, z, s, rfl, rfl, hz, hz1, HO, B1⟩ := hrel
      by_cases hlt : 0 ≤ z
      · obtain ⟨k, rfl⟩ : ∃ k : Nat, z = (k : Int) := ⟨z.toNat, by omega⟩
        have hkn : k < n := by have := hz.out; omega
        have hkz : (k : Int) < (n : Int) := by omega
        obtain ⟨b, o, x, rfl, hb, hx, hld⟩ := HH2.out.part hkn
        obtain ⟨c0, c1, c2, c3, c4, c5, c6, c7, c8, c9, c10⟩ := hld wr B1
        have hsz := B1.size
        have hj60 : j < 4294967296 := by have := hz.out; omega
        have hxr : Hid (r.take (j + 1) = r.take j ++ [x]) := by
          show _ = _
          have h1 := HL.out; have h2 := hz.out
          have h3 : r[j]? = some x := by
            rw [hr.out, List.getElem?_reverse (by omega), ← hx]
            congr 1; omega
          rw [List.take_add_one, h3]; rfl
        have w1 : IntKind.i64.wrap ((k : Int) - 1) = (k : Int) - 1 := wrap_is (by omega)
        clear hb hx hld
        go_wp2_with (at_builtin; refine wpList_pushP rfl (.tmp 25) (.tmp 30) rfl w2.heap.size _ j (r.take j) x _ rfl rfl rfl HO.out hj60 B1 hsz ?_; intro v1 w3 hown1 hbel1 hsz1)
        have HO2 : Hid (w3.ownsRow w2.heap.size 39 11 v1 (j + 1) ((r.take (j + 1)).flatMap P11.cells)) := by rw [hxr.out]; exact hown1
        exact ⟨⟨j + 1, (k : Int) - 1, _, rfl, rfl, by have := hz.out; show _ = _; omega, by omega, HO2, hbel1⟩, by simp only [intOf]; omega⟩
      · have hjn : Hid (j = n) := by have := hz.out; show _ = _; omega
        have HB : Hid (∃ A c, s = .slice A n c ∧ RdP wr A n c r) := by
          have h1 := hjn.out
          subst h1
          have h2 := HO.out
          rw [List.take_of_length_le (by rw [HRL.out]; omega)] at h2
          exact RdG.own_ p11len (by decide) h2
        obtain ⟨Ar, cr, rfl, hrr⟩ := HB.out
        replace HH2 := Lib.hid (HH2.out.below B1)
        replace RA := Lib.hid (RA.out.below B1)
        replace HB2 := Lib.hid (below_then HB2.out B1)
        have CB := Lib.hid (OB.out Ar cr wr hrr)
        clear HB HO hrr OB B1 hz hjn
        have hzn : ¬ (0 : Int) ≤ z := hlt
        go_wp2_with fail
        refine CB.out.mono ?_
        rintro e w3 ⟨Ab, cb, rfl, rb, b3⟩
        have RB := Lib.hid rb
        replace HH2 := Lib.hid (HH2.out.below b3)
        replace RA := Lib.hid (RA.out.below b3)
        replace HB2 := Lib.hid (below_then HB2.out b3)
        clear rb b3 CB hzn hlt hz1
        by_cases hm0 : m = 0
        · subst hm0
          have hO0 : Hid (O = []) := by show _ = _; exact List.length_eq_zero_iff.1 hm.out
          by_cases hn0 : n = 0
          · subst hn0
            go_wp2_with fail
            go_ret
            exact ⟨rfl, HB2.out⟩
          · have e0 : ((n : Int) == 0) = false := by simpa using hn0
            have RT : Hid (Calls Try.prog 10 #[cellV 4 zeroT (.slice A n c)] w3 fun e w' => e = .returned (.int .i64 1) ∧ Below w3.heap.size w3 w') :=
              right10_is 4 zeroT A n c l w3 HH2.out (by omega) (right_one (fun e => hn0 (by rw [← HL.out, e]; rfl)) (by rw [hO.out, hO0.out]) (by rw [HL.out]; exact hn))
            clear hn0
            go_wp2_with fail
            refine RT.out.mono ?_
            rintro e w4 ⟨rfl, b4⟩
            have HB4 := Lib.hid (below_then HB2.out b4)
            clear RT b4
            go_wp2_with fail
            go_ret
            exact ⟨rfl, HB4.out⟩
        · have hne : Hid (orderT l ≠ []) := by
            show _ ≠ _
            intro e
            rw [hO.out] at e
            exact hm0 (by rw [← hm.out, e]; rfl)
          have hmn : m = n := by
            obtain ⟨hw, _, he⟩ := orderT_whole hne.out
            rw [← hm.out, ← hO.out, he, ordT_len hw, HL.out]
          subst hmn
          have e0 : ((m : Int) == 0) = false := by simpa using hm0
          have HU : Hid (∀ (i : Nat) (x : P11), O[i]? = some x → x.a = ⟨0, 0⟩ ∨ ∃ (j : Nat) (y : P11), j < i ∧ O[j]? = some y ∧ y.d = x.a ∧ y.i = x.j) := by
            intro i x hx
            rw [← hO.out] at hx ⊢
            exact up_of hne.out hx
          have OO : Hid (∀ (A : Option Addr) (c : Nat) (W : World), RdP W A m c O → Calls Try.prog 15 #[.slice A m c] W fun e w' => ∃ A' c', e = .returned (.slice A' m c') ∧ RdP w' A' m c' O ∧ Below W.heap.size W w') := by
            intro A c W hW
            have h1 : orderT O = O := by rw [← hO.out]; exact orderT_twice hne.out
            have := orderT_any A m c O W hW (by omega)
            rw [h1, hm.out] at this
            exact this
          have SP : Hid (∀ (A B : Option Addr) (c d : Nat) (W : World), RdP W A m c O → RdP W B m d O → Calls Try.prog 14 #[.slice A m c, .slice B m d] W fun e w' => e = .returned (.bool true) ∧ Below W.heap.size W w') := by
            intro A B c d W h1 h2
            have := sameParts_any A B m m c d O O W h1 h2
            rwa [decide_eq_true rfl] at this
          have RT : Hid (∀ W, RdP W Aa m ca O → Calls Try.prog 10 #[cellV 4 zeroT (.slice Aa m ca)] W fun e w' => e = .returned (.int .i64 0) ∧ Below W.heap.size W w') := fun W hW =>
            right10_is 4 zeroT Aa m ca O W hW (by omega) (by rw [← hO.out]; exact right_ord hne.out)
          clear hm0 hne
          go_wp2_with fail
          refine (SP.out _ _ _ _ _ RA.out RB.out).mono ?_
          rintro e w4 ⟨rfl, b4⟩
          replace RA := Lib.hid (RA.out.below b4)
          replace HB2 := Lib.hid (below_then HB2.out b4)
          clear b4 RB
          go_wp2_with fail
          refine (OO.out _ _ _ RA.out).mono ?_
          rintro e w5 ⟨Ac, cc, rfl, rc, b5⟩
          have RC := Lib.hid rc
          replace RA := Lib.hid (RA.out.below b5)
          replace HB2 := Lib.hid (below_then HB2.out b5)
          clear b5 rc OO
          go_wp2_with fail
          refine (SP.out _ _ _ _ _ RC.out RA.out).mono ?_
          rintro e w6 ⟨rfl, b6⟩
          replace RA := Lib.hid (RA.out.below b6)
          replace HB2 := Lib.hid (below_then HB2.out b6)
          clear b6 RC SP
          go_wp2_with fail
          go_loopw [8] (fun i wr => ∃ k : Nat, k ≤ m ∧ i = .int .i64 k ∧ Hid (Below w6.heap.size w6 wr)) (fun i _ => m - (intOf i).toNat)
          case atStart => exact ⟨0, Nat.zero_le _, rfl, Below.refl _ _⟩
          case round =>
            obtain ⟨k, hk, rfl, HB⟩ := hrel
            by_cases hlt : k < m
            · obtain ⟨b, o, x, rfl, hb, hx, hld⟩ := RA.out.part hlt
              obtain ⟨c0, c1, c2, c3, c4, c5, c6, c7, c8, c9, c10⟩ := hld wr HB.out
              have z1 : (0 : Int) ≤ (k : Int) := by omega
              have z2 : (k : Int) < (m : Int) := by omega
              have HLD := Lib.hid hld
              have HUx := Lib.hid (HU.out k x hx)
              obtain ⟨q0, hq0⟩ : ∃ q0, Hid (decide ((⟨x.a.d, x.a.s⟩ : D2) = ⟨0, 0⟩) = q0) := ⟨_, rfl⟩
              have EQ := fun W2 => run_equalIn_dot x.a.d x.a.s 0 0 W2
              rw [hq0.out] at EQ
              have HS : Hid (q0 = true ∨ ∃ (j : Nat) (y : P11), 0 ≤ j ∧ j < k ∧ O[j]? = some y ∧ y.d = x.a ∧ y.i = x.j) := by
                rcases HUx.out with h1 | ⟨j, y, h1, h2, h3⟩
                · exact .inl (by rw [← hq0.out]; exact decide_eq_true h1)
                · exact .inr ⟨j, y, Nat.zero_le _, h1, h2, h3⟩
              clear hld hx hb HUx hq0
              go_wp2_with fail
              clear EQ c0 c1 c2 c3 c4 c5 c6 c7 c8 c9 c10
              go_loopw [9, 10] (fun u i wr2 => ∃ (q : Bool) (j : Nat), j ≤ k ∧ u = .bool q ∧ i = .int .i64 j ∧ Hid (q = true ∨ ∃ (i : Nat) (y : P11), j ≤ i ∧ i < k ∧ O[i]? = some y ∧ y.d = x.a ∧ y.i = x.j) ∧ Hid (Below w6.heap.size w6 wr2)) (fun _ i _ => k - (intOf i).toNat)
              case atStart => exact ⟨q0, 0, Nat.zero_le _, rfl, rfl, HS, HB⟩
              case round =>
                clear HS HB
                obtain ⟨q, j, hj, rfl, rfl, HS, HB⟩ := hrel
                by_cases hjk : j < k
                · obtain ⟨b', o', y, e', hb', hy, hld'⟩ := RA.out.part (show j < m by omega)
                  cases e'
                  obtain ⟨c0, c1, c2, c3, c4, c5, c6, c7, c8, c9, c10⟩ := HLD.out wr HB.out
                  obtain ⟨d0, d1, d2, d3, d4, d5, d6, d7, d8, d9, d10⟩ := hld' wr HB.out
                  have y1 : (0 : Int) ≤ (j : Int) := by omega
                  have y2 : (j : Int) < (m : Int) := by omega
                  have y3 : (j : Int) < (k : Int) := by omega
                  obtain ⟨q1, hq1⟩ : ∃ q1, Hid (decide ((⟨y.d.d, y.d.s⟩ : D2) = ⟨x.a.d, x.a.s⟩) = q1) := ⟨_, rfl⟩
                  have EQ := fun W2 => run_equalIn_dot y.d.d y.d.s x.a.d x.a.s W2
                  rw [hq1.out] at EQ
                  obtain ⟨q2, hq2⟩ : ∃ q2, (y.i == x.j) = q2 := ⟨_, rfl⟩
                  have HN : Hid (¬ (q1 = true ∧ q2 = true) → q = true ∨ ∃ (i : Nat) (y : P11), j + 1 ≤ i ∧ i < k ∧ O[i]? = some y ∧ y.d = x.a ∧ y.i = x.j) := by
                    intro hno
                    rcases HS.out with h1 | ⟨i, y', h1, h2, h3, h4, h5⟩
                    · exact .inl h1
                    · refine .inr ⟨i, y', ?_, h2, h3, h4, h5⟩
                      rcases Nat.lt_or_ge j i with h6 | h6
                      · exact h6
                      · exfalso
                        obtain rfl : i = j := by omega
                        rw [hy] at h3; cases h3
                        exact hno ⟨by rw [← hq1.out]; exact decide_eq_true h4, by rw [← hq2]; simpa using h5⟩
                  clear hld' hb' hy hq1 HS
                  cases q1 with
                  | false =>
                    have HS2 := Lib.hid (HN.out (by simp))
                    clear hq2 HN
                    go_wp2_with fail
                    go_quiet (fail)
                    have HB3 := Lib.hid (below_drewN HB.out nq)
                    generalize wr.drewN nq = w7 at HB3 ⊢
                    clear c0 c1 c2 c3 c4 c5 c6 c7 c8 c9 c10 d0 d1 d2 d3 d4 d5 d6 d7 d8 d9 d10 EQ HB
                    go_wp2_with fail
                    exact ⟨⟨q, j + 1, by omega, rfl, by go_num, HS2, HB3⟩, by simp [intOf]; omega⟩
                  | true =>
                    cases q2 with
                    | false =>
                      have HS2 := Lib.hid (HN.out (by simp))
                      clear HN
                      go_wp2_with fail
                      go_quiet (fail)
                      have HB3 := Lib.hid (below_drewN HB.out nq)
                      generalize wr.drewN nq = w7 at HB3 ⊢
                      clear c0 c1 c2 c3 c4 c5 c6 c7 c8 c9 c10 d0 d1 d2 d3 d4 d5 d6 d7 d8 d9 d10 EQ HB
                      go_wp2_with fail
                      exact ⟨⟨q, j + 1, by omega, rfl, by go_num, HS2, HB3⟩, by simp [intOf]; omega⟩
                    | true =>
                      clear HN
                      go_wp2_with fail
                      go_quiet (fail)
                      have HB3 := Lib.hid (below_drewN HB.out nq)
                      generalize wr.drewN nq = w7 at HB3 ⊢
                      clear c0 c1 c2 c3 c4 c5 c6 c7 c8 c9 c10 d0 d1 d2 d3 d4 d5 d6 d7 d8 d9 d10 EQ HB
                      go_wp2_with fail
                      exact ⟨⟨true, j + 1, by omega, rfl, by go_num, .inl rfl, HB3⟩, by simp [intOf]; omega⟩
                · have hqt : q = true := by
                    rcases HS.out with h1 | ⟨i, y', h1, h2, _⟩
                    · exact h1
                    · omega
                  subst hqt
                  have y3 : ¬ (j : Int) < (k : Int) := by omega
                  go_wp2_with fail
                  exact ⟨⟨k + 1, by omega, by go_num, HB⟩, by simp [intOf]; omega⟩
            · have z2 : ¬ (k : Int) < (m : Int) := by omega
              have CR := Lib.hid (RT.out _ (RA.out.below HB.out))
              go_wp2_with fail
              refine CR.out.mono ?_
              rintro e w7 ⟨rfl, b7⟩
              have HB7 := Lib.hid (below_then (below_then HB2.out HB.out) b7)
              clear CR b7
              go_wp2_with fail
              go_ret
              exact ⟨rfl, HB7.out⟩
  · have hnz : (40 : Int) < (n : Int) := by omega
    go_enter Try.func4, Try.ntmps4
    go_wp2_with fail
    refine (alive10_any _).mono ?_
    rintro e w1 ⟨rfl, b1⟩
    go_wp2_with fail
    go_ret
    exact ⟨rfl, b1⟩

set_option maxRecDepth 100000 in
theorem contract (H : Type) (enc : TypeId × Value → H) (W : World) (base : Nat) (args : Array Value) (ds gs : List (DataW H)) (before : List MemPlace)
    (hval : ∀ (j : Nat) t v, Try.f4.params[j]? = some t → args[j]? = some v → Value.okWide Try.prog W .any base t v)
    (hW : DataW.Whole enc Try.prog Try.f4.params.toList Rows.textOneSpec.vars false W args.toList ds gs before) :
    Calls Try.prog 4 args W fun e W' => ∃ v, e = .returned v ∧ Rows.textOneSpec.post enc Try.prog Try.f4 false true false false W args v W' := by
  have hlt : ∀ x ∈ before, x.block < W.heap.size := fun x hx => by simpa using hW.lt x hx
  refine law_step 4 Try.laid_ (by kernel_rfl) rfl Try.underlying4 rfl hW (fun xs hx => ?_) ?_
  · match xs, hx with
    | [d0], _ => rfl
  · obtain ⟨p, q, hA0, hV, rfl, _, _⟩ := hW
    have hA : DataW.TrodAll enc Try.prog W 0 (fun _ => true) true Try.f4.params.toList args.toList ds p := hA0
    rw [Try.params4] at hA hval
    obtain ⟨v0, vs0, d0, ds0, p0, q0, e0, rfl, rfl, h0, r0⟩ := trodAll_cons hA
    obtain ⟨rfl, rfl, rfl⟩ := trodAll_nil r0
    obtain rfl : args = #[v0] := by cases args; simp_all
    clear e0 hA0
    obtain ⟨A0, n0, c0, l, rfl, rd0, _⟩ := open_parts (hval 0 24 v0 rfl rfl) h0
    exact walk A0 n0 c0 l W rd0

set_option maxRecDepth 100000 in
theorem lifted (os : Os) (started : os.Started) (H : Type) (enc : TypeId × Value → H) :
    ReturnsInHanded {} Try.checked os 4 .any (Rows.textOneSpec.pre6 enc Try.prog Try.f4 Rows.textOneRow.domain false) (Rows.textOneSpec.post enc Try.prog Try.f4 false true false false) := by
  refine returnsInHanded_of_change (C := Try.checked) Try.own_ started (by kernel_rfl) Try.func4
    (ChangeSpec.witness6 (enc := enc) (C := Try.checked) false ⟨#[], #[.slice none 0 0], []⟩ 8 (by kernel_rfl) (by kernel_rfl) (by kernel_rfl) (by kernel_rfl)) ?_
  intro W base args ds gs before hval hW _ _
  exact contract H enc W base args ds gs before hval hW

theorem holds : Rows.TextOneSaid :=
  OpenClaim.holds_of_wide 4 Try.f4 rfl rfl rfl rfl rfl rfl rfl ⟨rfl, rfl, rfl, rfl, rfl⟩ rfl rfl rfl rfl rfl (by kernel_rfl) Try.func4 (by kernel_rfl)
    (of_decide_eq_true (by kernel_rfl)) (by unfold Func.isWrapper; first | (rw [if_pos (by decide +kernel)]; kernel_rfl) | (rw [if_neg (by decide +kernel)]; exact ⟨rfl, rfl⟩))
    (fun os started H enc _ => lifted os started H enc)
end Go.Proofs.Ythniobpmaahggaa.textOne

