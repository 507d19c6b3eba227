/- slices.SortStableFunc at structs: what is sorted holds the same in order, and what is alike as it stood. -/
import Derived.Test.YtieaobeidlhefaaKSym
import Derived.Shelf.SlSortCmp.QuietGrown
import Derived.Shelf.RegionOpenPlain
import Derived.BigRegion
import Derived.IntWalk
import Derived.Shelf.Abstract
namespace Go.Proofs.Ytieaobeidlhefaa
set_option maxRecDepth 100000
open Go.RowKit Go.Sort Srt
variable {α : Type} {Pg : Program} {enc : α → List Value} {k : Nat}

set_option maxHeartbeats 6400000 in
theorem stableK_any {lt : α → α → Bool} (hw : Weak lt) (L : LayK Pg k) (henc : EncK enc k) (g : Nat) (cb : Array Value) (blk off cap n : Nat) (d : List α) (w0 w : World)
    (eg : ∀ args w, (callFunc g args).run Pg w = .ok (.enter g args) w) (hcmp : CmpK Pg g cb enc k lt blk off n w0) (hmax : n < 1000000000000000000)
    (hn : d.length = n) (HS : SwK enc k w0 blk off d w) :
    Calls Pg 86 #[.slice (some ⟨blk, off, none⟩) n cap, .int .i64 n, .func (.func g) #[] cb] w fun e w' => e = .returned (.tuple #[]) ∧ SwK enc k w0 blk off (isort lt d) w' := by
  have HN := Lib.hid hn; have HC := Lib.hid hcmp; have HW := Lib.hid HS; have HWk := Lib.hid hw
  clear hn hcmp HS hw
  obtain ⟨F, hF⟩ : ∃ F, Hid (F = isort lt d) := ⟨_, rfl⟩
  rw [← hF.out]
  have mixed := L.mixed; have tU := L.tU; have aU := L.aU; have zU := L.zU; have vU := L.vU; have tI := L.tI; have aI := L.aI; have zI := L.zI; have vI := L.vI; have tB := L.tB; have aB := L.aB; have zB := L.zB; have vB := L.vB; have tS := L.tS; have aS := L.aS; have zS := L.zS; have vS := L.vS; have tC := L.tC; have aC := L.aC; have zC := L.zC; have vC := L.vC; have tW := L.tW; have aW := L.aW; have zW := L.zW; have vW := L.vW; have aE := L.aE; have zE := L.zE
  have eins : ∀ args w, (callFunc 92 args).run Pg w = .ok (.enter 92 args) w := enters_of L.ins (by kernel_rfl) rfl
  have esym : ∀ args w, (callFunc 93 args).run Pg w = .ok (.enter 93 args) w := enters_of L.sym (by kernel_rfl) rfl
  have HE := Lib.hid henc; have HL0 := Lib.hid L
  clear henc L
  go_enter HL0.out.stb, Try.ntmps86
  go_wp2_with fail
  go_loopw [7, 8] (fun v u wr => ∃ (kk c : Nat) (D : List α), v = .int .i64 c ∧ u = .int .i64 ((c + 20 : Nat) : Int) ∧ c ≤ n ∧ Hid (c = kk * 20) ∧ Hid (D = parts lt 20 d 0 kk ++ d.drop c) ∧ Hid (SwK enc k w0 blk off D wr)) (fun v _ _ => n + 1 - (intOf v).toNat)
  case atStart => exact ⟨0, 0, d, rfl, rfl, Nat.zero_le _, by show _ = _; omega, by show _ = _; simp [parts], HW⟩
  case round =>
    clear HW
    obtain ⟨kk, c, D, rfl, rfl, hcn, hc, HD, HW⟩ := hrel
    obtain ⟨P, hP, lP⟩ : ∃ P, Hid (P = parts lt 20 d 0 kk) ∧ Hid (P.length = c) := by
      refine ⟨_, rfl, ?_⟩
      show _ = _
      have h1 := hc.out; have h2 := HN.out
      rw [parts_len_all]; omega
    by_cases hlt : c + 20 ≤ n
    · have hlz : ((c + 20 : Nat) : Int) ≤ (n : Int) := by omega
      obtain ⟨S, Y, hS, lS, hdc⟩ : ∃ S Y : List α, Hid (S = (d.drop (kk * 20)).take 20) ∧ Hid (S.length = 20) ∧ Hid (d.drop c = S ++ Y ∧ Y = d.drop (c + 20)) := by
        have h1 := hc.out; have h2 := HN.out
        refine ⟨_, d.drop (c + 20), rfl, ?_, ?_, rfl⟩
        · show _ = _
          rw [List.length_take, List.length_drop]; omega
        · rw [← h1, ← List.drop_drop, List.take_append_drop]
      have C := Lib.hid (insSortK_any HWk.out HL0.out HE.out g cb blk off cap c (c + 20) n P S Y w0 wr eg HC.out
        (by have h3 := HD.out; have h4 := hdc.out.1; have h5 := HN.out; have h1 := lP.out
            rw [List.append_assoc, ← h4, List.length_append, List.length_drop]; omega) lP.out (by have := lP.out; have := lS.out; omega) hmax
        (by have := HW.out; rw [HD.out, ← hP.out, hdc.out.1] at this; simpa using this))
      have w1 : IntKind.i64.wrap (((c + 20 : Nat) : Int) + 20) = ((c + 20 + 20 : Nat) : Int) := by rw [wrap_is (by omega)]; omega
      obtain ⟨c2, hc2⟩ : ∃ c2, Hid (c2 = c + 20) := ⟨_, rfl⟩
      rw [← hc2.out] at C w1 hlz ⊢
      go_wp2_with (go_at_call 92; refine C.out.mono ?_; rintro e w' ⟨rfl, HS⟩)
      have HS2 := Lib.hid HS
      clear HS w1
      refine ⟨⟨kk + 1, c2, _, rfl, by go_num, by have := hc2.out; omega, by show _ = _; have h1 := hc.out; have h2 := hc2.out; omega, ?_, HS2⟩, by have := hc2.out; simp [intOf]; omega⟩
      show _ = _
      rw [parts_snoc, ← hP.out, hdc.out.2, hc2.out, Srt.part, hS.out, Nat.zero_add]
    · have hlz : ¬ ((c + 20 : Nat) : Int) ≤ (n : Int) := by omega
      have C := Lib.hid (insSortK_any HWk.out HL0.out HE.out g cb blk off cap c n n P (d.drop c) [] w0 wr eg HC.out
        (by have h5 := HN.out; have h1 := lP.out
            rw [List.append_nil, List.length_append, List.length_drop]; omega) lP.out (by have := lP.out; have h5 := HN.out; rw [List.length_drop]; omega) hmax
        (by have := HW.out; rw [HD.out, ← hP.out] at this; simpa using this))
      obtain ⟨c2, hc2⟩ : ∃ c2, Hid (c2 = c + 20) := ⟨_, rfl⟩
      rw [← hc2.out] at hlz ⊢
      go_wp2_with (go_at_call 92; refine C.out.mono ?_; rintro e w' ⟨rfl, HS⟩)
      have HS2 : Hid (∃ D, Hid (D = parts lt 20 d 0 (kk + 1)) ∧ SwK enc k w0 blk off D w') := by
        refine ⟨_, rfl, ?_⟩
        have h1 := hc.out; have h2 := HN.out
        rw [parts_snoc, ← hP.out, Srt.part, Nat.zero_add, ← h1, List.take_of_length_le (by rw [List.length_drop]; omega)]
        simpa using HS
      have hk1 : Hid (n ≤ (kk + 1) * 20) := by
        show _ ≤ _
        have h1 := hc.out
        omega
      clear HS
      go_loopw [6] (fun v wr => ∃ (s K : Nat) (D : List α), v = .int .i64 s ∧ 20 ≤ s ∧ s ≤ 2 * n + 20 ∧ 0 < K ∧ Hid (n ≤ K * s) ∧ Hid (D = parts lt s d 0 K) ∧ Hid (SwK enc k w0 blk off D wr)) (fun v _ => 2 * n + 21 - (intOf v).toNat)
      case atStart =>
        obtain ⟨D1, h1, h2⟩ := HS2.out
        exact ⟨20, kk + 1, D1, rfl, Nat.le_refl _, by omega, by omega, hk1, h1, h2⟩
      case round =>
        clear HS2 hk1 HW HD hP lP C hc hc2 hlz hlt hcn
        obtain ⟨s, K, D1, rfl, hs20, hsn, hK0, hK, HD, HW⟩ := hrel
        by_cases hlt : s < n
        · have hlz : (s : Int) < (n : Int) := by omega
          obtain ⟨t, w1, w2, ht⟩ : ∃ t : Nat, IntKind.i64.wrap (2 * (s : Int)) = (t : Int) ∧ IntKind.i64.wrap ((s : Int) * 2) = (t : Int) ∧ Hid (t = 2 * s) := ⟨2 * s, by rw [wrap_is (by omega)]; omega, by rw [wrap_is (by omega)]; omega, rfl⟩
          have ht0 : 0 < t := by have := ht.out; omega
          have H0 : Hid (D1 = parts lt t d 0 0 ++ parts lt s d (2 * 0) (K - 2 * 0)) := by show _ = _; rw [HD.out]; rfl
          clear HD
          go_wp2_with fail
          go_loopw [7, 8] (fun v u wr => ∃ (kk c e : Nat) (D : List α), v = .int .i64 c ∧ u = .int .i64 e ∧ c ≤ n ∧ Hid (c = kk * t) ∧ Hid (e = c + t) ∧ Hid (D = parts lt t d 0 kk ++ parts lt s d (2 * kk) (K - 2 * kk)) ∧ Hid (SwK enc k w0 blk off D wr)) (fun v _ _ => n + 1 - (intOf v).toNat)
          case atStart => exact ⟨0, 0, t, D1, rfl, rfl, Nat.zero_le _, by show _ = _; omega, by show _ = _; omega, H0, HW⟩
          case round =>
            clear HW H0
            obtain ⟨kk, c, e, D, rfl, rfl, hcn, hc, he, HD, HW⟩ := hrel
            obtain ⟨P, hP, lP⟩ : ∃ P, Hid (P = parts lt t d 0 kk) ∧ Hid (P.length = c) := by
              refine ⟨_, rfl, ?_⟩
              show _ = _
              have h1 := hc.out; have h2 := HN.out
              rw [parts_len_all]; omega
            by_cases hlt2 : e ≤ n
            · have hlz2 : (e : Int) ≤ (n : Int) := by omega
              obtain ⟨m, w3, hm⟩ : ∃ m : Nat, IntKind.i64.wrap ((c : Int) + s) = (m : Int) ∧ Hid (m = c + s) := ⟨c + s, by rw [wrap_is (by omega)]; omega, rfl⟩
              obtain ⟨e2, w4, he2⟩ : ∃ e2 : Nat, IntKind.i64.wrap ((e : Int) + t) = (e2 : Int) ∧ Hid (e2 = e + t) := ⟨e + t, by rw [wrap_is (by have := ht.out; omega)]; omega, rfl⟩
              obtain ⟨U, V, Y, hUV, lU, lV, sU, sV, hM⟩ : ∃ U V Y : List α, Hid (D = P ++ U ++ V ++ Y) ∧ Hid (U.length = s) ∧ Hid (V.length = s) ∧ Hid (Sorted lt U) ∧ Hid (Sorted lt V) ∧ Hid (P ++ merge lt U V ++ Y = parts lt t d 0 (kk + 1) ++ parts lt s d (2 * (kk + 1)) (K - 2 * (kk + 1))) := by
                have h1 := hc.out; have h2 := HN.out; have h3 := ht.out; have h4 := he.out; have h5 := hK.out
                have h6 : 2 * kk * s = kk * t := by rw [h3]; exact twice kk s
                have h7 : (2 * kk + 1) * s = 2 * kk * s + s := Nat.succ_mul _ _
                have h8 : 2 * kk + 2 ≤ K := by
                  rcases Nat.lt_or_ge K (2 * kk + 2) with h | h
                  · have h9 : K * s ≤ (2 * kk + 1) * s := Nat.mul_le_mul_right s (by omega)
                    omega
                  · exact h
                refine ⟨Srt.part lt s d (2 * kk), Srt.part lt s d (2 * kk + 1), parts lt s d (2 * (kk + 1)) (K - 2 * (kk + 1)), ?_, ?_, ?_, part_sorted HWk.out _ _ _, part_sorted HWk.out _ _ _, ?_⟩
                · show _ = _
                  rw [HD.out, hP.out, parts_two h8]; simp
                · show _ = _
                  rw [part_len]; omega
                · show _ = _
                  rw [part_len]; omega
                · show _ = _
                  rw [part_two HWk.out, hP.out, parts_snoc, Nat.zero_add, h3]
              have lD : Hid (D.length = n) := by
                show _ = _
                have h1 := hc.out; have h2 := HN.out; have h3 := ht.out; have h5 := hK.out
                have h6 : 2 * kk * s = kk * t := by rw [h3]; exact twice kk s
                have h7 : (K - 2 * kk) * s = K * s - 2 * kk * s := Nat.sub_mul _ _ _
                have h8 := lP.out
                rw [hP.out] at h8
                rw [HD.out, List.length_append, h8, parts_len_all]
                omega
              have C := Lib.hid (symMergeK_any HWk.out HL0.out HE.out g cb blk off cap n w0 eg HC.out hmax (s + s) c m e P U V Y wr (by have := lU.out; have := lV.out; omega) (by have := lU.out; omega) (by have := lV.out; omega)
                (by have := lD.out; rw [hUV.out] at this; exact this) lP.out (by have := lU.out; have := hm.out; omega) (by have := lV.out; have := hm.out; have := he.out; have := ht.out; omega) sU.out sV.out (by have := HW.out; rw [hUV.out] at this; exact this))
              go_wp2_with (go_at_call 93; refine C.out.mono ?_; rintro ex w' ⟨rfl, HS⟩)
              have HS2 := Lib.hid HS
              clear HS w3 w4 w1 w2
              exact ⟨⟨kk + 1, e, e2, _, rfl, rfl, hlt2, by show _ = _; have h1 := hc.out; have h2 := he.out; have h3 : (kk + 1) * t = kk * t + t := Nat.succ_mul _ _; omega, he2, hM, HS2⟩, by have := he.out; simp [intOf]; omega⟩
            · have hlz2 : ¬ (e : Int) ≤ (n : Int) := by omega
              obtain ⟨m, w3, hm⟩ : ∃ m : Nat, IntKind.i64.wrap ((c : Int) + s) = (m : Int) ∧ Hid (m = c + s) := ⟨c + s, by rw [wrap_is (by omega)]; omega, rfl⟩
              have hK2 : Hid (n ≤ (kk + 1) * t) := by
                show _ ≤ _
                have h1 := hc.out; have h2 := he.out; have h3 : (kk + 1) * t = kk * t + t := Nat.succ_mul _ _
                omega
              have lD : Hid (D.length = n) := by
                show _ = _
                have h1 := hc.out; have h2 := HN.out; have h3 := ht.out; have h5 := hK.out
                have h6 : 2 * kk * s = kk * t := by rw [h3]; exact twice kk s
                have h7 : (K - 2 * kk) * s = K * s - 2 * kk * s := Nat.sub_mul _ _ _
                have h8 := lP.out
                rw [hP.out] at h8
                rw [HD.out, List.length_append, h8, parts_len_all]
                omega
              by_cases hlt3 : m < n
              · have hlz3 : (m : Int) < (n : Int) := by omega
                obtain ⟨U, V, hUV, lU, lV, sU, sV, hM⟩ : ∃ U V : List α, Hid (D = P ++ U ++ V ++ []) ∧ Hid (U.length = s) ∧ Hid (V.length = n - m) ∧ Hid (Sorted lt U) ∧ Hid (Sorted lt V) ∧ Hid (P ++ merge lt U V ++ [] = parts lt t d 0 (kk + 1)) := by
                  have h1 := hc.out; have h2 := HN.out; have h3 := ht.out; have h4 := he.out; have h5 := hK.out; have h0 := hm.out
                  have h6 : 2 * kk * s = kk * t := by rw [h3]; exact twice kk s
                  have h7 : (2 * kk + 1) * s = 2 * kk * s + s := Nat.succ_mul _ _
                  have h10 : 2 * (kk + 1) * s = 2 * kk * s + 2 * s := by rw [show 2 * (kk + 1) = 2 * kk + 2 by omega, Nat.add_mul]
                  have h8 : 2 * kk + 2 ≤ K := by
                    rcases Nat.lt_or_ge K (2 * kk + 2) with h | h
                    · have h9 : K * s ≤ (2 * kk + 1) * s := Nat.mul_le_mul_right s (by omega)
                      omega
                    · exact h
                  refine ⟨Srt.part lt s d (2 * kk), Srt.part lt s d (2 * kk + 1), ?_, ?_, ?_, part_sorted HWk.out _ _ _, part_sorted HWk.out _ _ _, ?_⟩
                  · show _ = _
                    rw [HD.out, hP.out, parts_two h8, parts_none (K - 2 * (kk + 1)) (2 * (kk + 1)) (by omega)]; simp
                  · show _ = _
                    rw [part_len]; omega
                  · show _ = _
                    rw [part_len]; omega
                  · show _ = _
                    rw [part_two HWk.out, hP.out, parts_snoc, Nat.zero_add, h3, List.append_nil]
                have C := Lib.hid (symMergeK_any HWk.out HL0.out HE.out g cb blk off cap n w0 eg HC.out hmax (s + n) c m n P U V [] wr (by have := lU.out; have := lV.out; omega) (by have := lU.out; omega) (by have := lV.out; omega)
                  (by have := lD.out; rw [hUV.out] at this; exact this) lP.out (by have := lU.out; have := hm.out; omega) (by have := lV.out; have := hm.out; omega) sU.out sV.out (by have := HW.out; rw [hUV.out] at this; exact this))
                go_wp2_with (go_at_call 93; refine C.out.mono ?_; rintro ex w' ⟨rfl, HS⟩)
                have HS2 := Lib.hid HS
                clear HS w3 w1 w2
                exact ⟨⟨t, kk + 1, _, rfl, by have := ht.out; omega, by have := ht.out; omega, by omega, hK2, hM, HS2⟩, by have := ht.out; simp [intOf]; omega⟩
              · have hlz3 : ¬ (m : Int) < (n : Int) := by omega
                have hM : Hid (D = parts lt t d 0 (kk + 1)) := by
                  show _ = _
                  have h1 := hc.out; have h2 := HN.out; have h3 := ht.out; have h5 := hK.out; have h0 := hm.out
                  rw [HD.out, parts_snoc, Nat.zero_add, tail_part (by rw [← h3]; omega) (by omega), h3]
                go_wp2
                clear w3 w1 w2
                exact ⟨⟨t, kk + 1, D, rfl, by have := ht.out; omega, by have := ht.out; omega, by omega, hK2, hM, HW⟩, by have := ht.out; simp [intOf]; omega⟩
        · have hlz : ¬ (s : Int) < (n : Int) := by omega
          have HFD : Hid (D1 = F) := by
            show _ = _
            have h2 := HN.out
            rw [HD.out, hF.out, parts_all (by omega) hK0]
          go_wp2
          go_end0
          exact ⟨rfl, by rw [← HFD.out]; exact HW.out⟩

theorem sortStableK_any {lt : α → α → Bool} (hw : Weak lt) (L : LayK Pg k) (henc : EncK enc k) (g : Nat) (cb : Array Value) (blk off cap n : Nat) (d : List α) (w0 w : World)
    (eg : ∀ args w, (callFunc g args).run Pg w = .ok (.enter g args) w) (hcmp : CmpK Pg g cb enc k lt blk off n w0) (hmax : n < 1000000000000000000)
    (hn : d.length = n) (HS : SwK enc k w0 blk off d w) :
    Calls Pg 62 #[.slice (some ⟨blk, off, none⟩) n cap, .func (.func g) #[] cb] w fun e w' => e = .returned (.tuple #[]) ∧ SwK enc k w0 blk off (isort lt d) w' := by
  have C := Lib.hid (stableK_any hw L henc g cb blk off cap n d w0 w eg hcmp hmax hn HS)
  clear hcmp HS hn hw
  have mixed := L.mixed; have tU := L.tU; have aU := L.aU; have zU := L.zU; have vU := L.vU; have tI := L.tI; have aI := L.aI; have zI := L.zI; have vI := L.vI; have tB := L.tB; have aB := L.aB; have zB := L.zB; have vB := L.vB; have tS := L.tS; have aS := L.aS; have zS := L.zS; have vS := L.vS; have tC := L.tC; have aC := L.aC; have zC := L.zC; have vC := L.vC; have tW := L.tW; have aW := L.aW; have zW := L.zW; have vW := L.vW; have aE := L.aE; have zE := L.zE
  have estb : ∀ args w, (callFunc 86 args).run Pg w = .ok (.enter 86 args) w := enters_of L.stb (by kernel_rfl) rfl
  have HE := Lib.hid henc; have HL0 := Lib.hid L
  clear henc L
  go_enter HL0.out.top, Try.ntmps62
  go_wp2_with (go_at_call 86; refine C.out.mono ?_; rintro e w' ⟨rfl, HS⟩)
  go_end0
  exact ⟨rfl, HS⟩
end Go.Proofs.Ytieaobeidlhefaa
