/- Whatever vectors and numbers come in: VectorMakes answers true: what any two come to, one without noughts at its end, and one with another number of a device, is what the document says. No condition. -/
import Derived.Test.YtefbgbciaiedeaaRows
import Derived.Test.YtefbgbciaiedeaaLaw
import Derived.Test.YtefbgbciaiedeaaVecAlive
import Derived.Test.YtefbgbciaiedeaaVecOpen
import Derived.Test.YtefbgbciaiedeaaVecLaw
import Derived.Deep.RegionHeld3
namespace Go.Proofs.Ytefbgbciaiedeaa.vectorMakes
open Go.ChangeShapes Go.WideShapes Go.ChangeAt Go.RowKit Go.ChangeMaps

set_option maxRecDepth 100000 in
set_option maxHeartbeats 12800000 in
theorem walk (A B : Option Addr) (n c m d : Nat) (a b : List Int) (u v : Int) (w : World) (ha : Rd w A n c (vals .i64 a)) (hb : Rd w B m d (vals .i64 b)) :
    Calls Try.prog 4 #[.slice A n c, .slice B m d, .agg #[.int .i64 u, .int .i64 v]] w fun e w' => e = .returned (.bool true) ∧ Below w.heap.size w w' := by
  have HA := Lib.hid ha; have HB := Lib.hid hb
  have hla := Lib.hid (show a.length = n by simpa using ha.len); have hlb := Lib.hid (show b.length = m by simpa using hb.len)
  clear ha hb
  have BB := below_new (Below.refl w.heap.size w) (.cells #[.int .i64 u, .int .i64 v] 32)
  have Q : Hid ((w.alloc (.cells #[.int .i64 u, .int .i64 v] 32)).heap[w.heap.size]? = some (.cells #[.int .i64 u, .int .i64 v] 32)) := heap_alloc_new w _
  by_cases hf : n ≤ 100 ∧ m ≤ 100
  rotate_left
  · have hfew : (decide (n ≤ 100) && decide (m ≤ 100)) = false := by
      by_cases h1 : n ≤ 100 <;> by_cases h2 : m ≤ 100 <;> simp [h1, h2] <;> omega
    clear hf
    go_enter Try.func4, Try.ntmps4
    go_wp2_with fail
    generalize w.alloc (.cells #[.int .i64 u, .int .i64 v] 32) = w0 at Q BB ⊢
    skip
    refine (is_bool (r := false) hfew (vecFew_any A B n m c d _)).mono ?_
    rintro e w1 ⟨rfl, hw1⟩
    have b1 := same_below hw1
    clear hw1
    have B1 := below_then (BB) b1
    replace Q := Lib.hid (row_below (Q.out) b1)
    clear b1
    go_wp2_with fail
    refine (vecAlive_any _).mono ?_
    rintro e w2 ⟨rfl, b2⟩
    have B2 := below_then (B1) b2
    replace Q := Lib.hid (row_below (Q.out) b2)
    clear B1
    clear b2
    go_wp2
    go_ret
    exact ⟨rfl, B2⟩
  have hfew : (decide (n ≤ 100) && decide (m ≤ 100)) = true := by simp [hf.1, hf.2]
  have hn4 : n ≤ 4294967296 := by omega
  have hm4 : m ≤ 4294967296 := by omega
  obtain ⟨J, kJ, hJ, hkJ, hlJ, HJ⟩ := named_join a b (by rw [hla.out]; omega) (by rw [hlb.out]; omega)
  obtain ⟨M, kM, hM, hkM, hlM, HM⟩ := named_meet a b (by rw [hla.out]; omega) (by rw [hlb.out]; omega)
  obtain ⟨T, hT, kT, hkT⟩ : ∃ T, Hid (trimV a = T) ∧ ∃ k, Hid (T.length = k) := ⟨_, rfl, _, rfl⟩
  obtain ⟨V, hV, kV, hkV⟩ : ∃ T, Hid (setV a u v = T) ∧ ∃ k, Hid (T.length = k) := ⟨_, rfl, _, rfl⟩
  have hlT : kT ≤ 4294967296 := by have := trimV_len_le a; rw [hT.out, hkT.out, hla.out] at this; omega
  have hlV : kV ≤ 4294967296 := by have := setV_len a u v; rw [hV.out, hkV.out, hla.out] at this; omega
  have P1 : Hid (∀ W, Below w.heap.size w W → Calls Try.prog 24 #[.slice A n c, .slice B m d] W fun e W' => ∃ A' c', e = .returned (.slice A' kJ c') ∧ Rd W' A' kJ c' (vals .i64 J) ∧ Below W.heap.size W W') := Lib.hid fun W hW => vecJoin_is hJ.out hkJ.out (HA.out.below hW) (HB.out.below hW) hn4 hm4
  have P2 : Hid (∀ W, Below w.heap.size w W → Calls Try.prog 25 #[.slice A n c, .slice B m d] W fun e W' => ∃ A' c', e = .returned (.slice A' kJ c') ∧ Rd W' A' kJ c' (vals .i64 J) ∧ Below W.heap.size W W') := Lib.hid fun W hW => refJoin_is hJ.out hkJ.out (HA.out.below hW) (HB.out.below hW) hn4 hm4
  have P3 : Hid (∀ W, Below w.heap.size w W → Calls Try.prog 26 #[.slice A n c, .slice B m d] W fun e W' => ∃ A' c', e = .returned (.slice A' kM c') ∧ Rd W' A' kM c' (vals .i64 M) ∧ Below W.heap.size W W') := Lib.hid fun W hW => vecMeet_is hM.out hkM.out (HA.out.below hW) (HB.out.below hW) hn4 hm4
  have P4 : Hid (∀ W, Below w.heap.size w W → Calls Try.prog 27 #[.slice A n c, .slice B m d] W fun e W' => ∃ A' c', e = .returned (.slice A' kM c') ∧ Rd W' A' kM c' (vals .i64 M) ∧ Below W.heap.size W W') := Lib.hid fun W hW => refMeet_is hM.out hkM.out (HA.out.below hW) (HB.out.below hW) hn4 hm4
  have P5 : Hid (∀ W, Below w.heap.size w W → Calls Try.prog 28 #[.slice A n c] W fun e W' => ∃ A' c', e = .returned (.slice A' kT c') ∧ Rd W' A' kT c' (vals .i64 T) ∧ Below W.heap.size W W') := Lib.hid fun W hW => vecTrim_is hT.out hkT.out (HA.out.below hW) hn4
  have P6 : Hid (∀ W, Below w.heap.size w W → Calls Try.prog 29 #[.slice A n c] W fun e W' => ∃ A' c', e = .returned (.slice A' kT c') ∧ Rd W' A' kT c' (vals .i64 T) ∧ Below W.heap.size W W') := Lib.hid fun W hW => refTrim_is hT.out hkT.out (HA.out.below hW)
  have P7 : Hid (∀ W, Below w.heap.size w W → Calls Try.prog 30 #[.slice A n c, .int .i64 u, .int .i64 v] W fun e W' => ∃ A' c', e = .returned (.slice A' kV c') ∧ Rd W' A' kV c' (vals .i64 V) ∧ Below W.heap.size W W') := Lib.hid fun W hW => vecSet_is hV.out hkV.out (HA.out.below hW) hn4
  have P8 : Hid (∀ W, Below w.heap.size w W → Calls Try.prog 31 #[.slice A n c, .int .i64 u, .int .i64 v] W fun e W' => ∃ A' c', e = .returned (.slice A' kV c') ∧ Rd W' A' kV c' (vals .i64 V) ∧ Below W.heap.size W W') := Lib.hid fun W hW => refSet_is hV.out hkV.out (HA.out.below hW) hn4
  clear hf hn4 hm4 hJ hkJ HJ hM hkM HM hT hkT hV hkV
  go_enter Try.func4, Try.ntmps4
  go_wp2_with fail
  generalize w.alloc (.cells #[.int .i64 u, .int .i64 v] 32) = w0 at Q BB ⊢
  skip
  refine (is_bool (r := true) hfew (vecFew_any A B n m c d _)).mono ?_
  rintro e w1 ⟨rfl, hw1⟩
  have b1 := same_below hw1
  clear hw1
  have B1 := below_then (BB) b1
  replace Q := Lib.hid (row_below (Q.out) b1)
  clear b1
  obtain ⟨z0, z1⟩ := pair_at Q.out
  have BD := B1.drew
  clear Q
  go_wp2_with fail
  go_region_held3 (fun W => Below w.heap.size w W ∧ W.cell? ⟨w.heap.size, 0, none⟩ = some (.int .i64 u) ∧ W.cell? ⟨w.heap.size, 1, none⟩ = some (.int .i64 v))
    (first
      | (go_split_ands
         refine ⟨?_, ?_, ?_⟩
         · exact below_then (by assumption) bb
         all_goals exact (bb.cell (World.block_lt_of_cell? _ _ (by assumption))).trans (by assumption))
      | (go_split_ands
         refine ⟨?_, ?_, ?_⟩
         · exact Below.drew (by assumption)
         all_goals (show World.cell? _ _ = _; assumption))
      | (go_split_ands
         refine ⟨?_, ?_, ?_⟩
         all_goals assumption)
      | go_keep)
    (first
      | (go_at_call 12; refine (vecAlive_any _).mono ?_; rintro e wx ⟨rfl, bb⟩)
      | (go_at_call 24; refine (P1.out _ (by go_split_ands; assumption)).mono ?_; rintro e wx ⟨X1, d1, rfl, r1, bb⟩)
      | (go_at_call 25; refine (P2.out _ (by go_split_ands; assumption)).mono ?_; rintro e wx ⟨X2, d2, rfl, r2, bb⟩; replace r1 := r1.below bb)
      | (go_at_call 26; refine (P3.out _ (by go_split_ands; assumption)).mono ?_; rintro e wx ⟨X1, d1, rfl, r1, bb⟩)
      | (go_at_call 27; refine (P4.out _ (by go_split_ands; assumption)).mono ?_; rintro e wx ⟨X2, d2, rfl, r2, bb⟩; replace r1 := r1.below bb)
      | (go_at_call 28; refine (P5.out _ (by go_split_ands; assumption)).mono ?_; rintro e wx ⟨X1, d1, rfl, r1, bb⟩)
      | (go_at_call 29; refine (P6.out _ (by go_split_ands; assumption)).mono ?_; rintro e wx ⟨X2, d2, rfl, r2, bb⟩; replace r1 := r1.below bb)
      | (go_at_call 30; refine (P7.out _ (by go_split_ands; assumption)).mono ?_; rintro e wx ⟨X1, d1, rfl, r1, bb⟩)
      | (go_at_call 31; refine (P8.out _ (by go_split_ands; assumption)).mono ?_; rintro e wx ⟨X2, d2, rfl, r2, bb⟩; replace r1 := r1.below bb)
      | (go_at_call 23; (first | refine (refEqual_is (r := true) (by simp [sameV_refl]) r1 r2 hlJ hlJ).mono ?_ | refine (refEqual_is (r := true) (by simp [sameV_refl]) r1 r2 hlM hlM).mono ?_ | refine (refEqual_is (r := true) (by simp [sameV_refl]) r1 r2 hlT hlT).mono ?_ | refine (refEqual_is (r := true) (by simp [sameV_refl]) r1 r2 hlV hlV).mono ?_); rintro e wz ⟨rfl, hw⟩; have bb := same_below hw; clear hw r1 r2))
  all_goals go_wp2
  all_goals go_ret
  all_goals go_split_ands
  all_goals exact ⟨rfl, by assumption⟩

theorem contract (H : Type) (enc : TypeId × Value → H) (W : World) (base : Nat) (args : Array Value) (ds gs : List (DataW H)) (before : List MemPlace)
    (hval : ∀ (j : Nat) t v, Try.f4.params[j]? = some t → args[j]? = some v → Value.okWide Try.prog W .any base t v)
    (hW : DataW.Whole enc Try.prog Try.f4.params.toList Rows.vectorMakesSpec.vars false W args.toList ds gs before) :
    Calls Try.prog 4 args W fun e W' => ∃ v, e = .returned v ∧ Rows.vectorMakesSpec.post enc Try.prog Try.f4 false true false false W args v W' := by
  have hlt : ∀ x ∈ before, x.block < W.heap.size := fun x hx => by simpa using hW.lt x hx
  refine law_step 4 Try.laid_ (by kernel_rfl) rfl Try.underlying4 rfl hW (fun xs hx => ?_) ?_
  · match xs, hx with
    | [d0, d1, d2], _ => rfl
  · obtain ⟨p, q, hA0, hV, rfl, _, _⟩ := hW
    have hA : DataW.TrodAll enc Try.prog W 0 (fun _ => true) true Try.f4.params.toList args.toList ds p := hA0
    rw [Try.params4] at hA hval
    obtain ⟨v0, vs0, d0, ds0, p0, q0, e0, rfl, rfl, h0, r0⟩ := trodAll_cons hA
    obtain ⟨v1, vs1, d1, ds1, p1, q1, e1, rfl, rfl, h1, r1⟩ := trodAll_cons r0
    obtain ⟨v2, vs2, d2, ds2, p2, q2, e2, rfl, rfl, h2, r2⟩ := trodAll_cons r1
    obtain ⟨rfl, rfl, rfl⟩ := trodAll_nil r2
    subst e2
    subst e1
    obtain rfl : args = #[v0, v1, v2] := by cases args; simp_all
    clear e0 hA0
    obtain ⟨A0, n0, c0, a, rfl, rd0, wf0⟩ := open_vec (hval 0 23 v0 rfl rfl) h0 (fun x hx => hlt x (by simp [hx]))
    obtain ⟨A1, n1, c1, b, rfl, rd1, wf1⟩ := open_vec (hval 1 23 v1 rfl rfl) h1 (fun x hx => hlt x (by simp [hx]))
    obtain ⟨x2, y2, rfl, wx2, wy2⟩ := open_arr2 (hval 2 32 v2 rfl rfl) h2
    exact walk A0 A1 n0 c0 n1 c1 a b x2 y2 W rd0 rd1

set_option maxRecDepth 100000 in
theorem lifted (os : Os) (started : os.Started) (H : Type) (enc : TypeId × Value → H) :
    ReturnsInHanded {} Try.checked os 4 .any (Rows.vectorMakesSpec.pre6 enc Try.prog Try.f4 Rows.vectorMakesRow.domain false) (Rows.vectorMakesSpec.post enc Try.prog Try.f4 false true false false) := by
  refine returnsInHanded_of_change (C := Try.checked) Try.own_ started (by kernel_rfl) Try.func4
    (ChangeSpec.witness6 (enc := enc) (C := Try.checked) false ⟨#[], #[.slice none 0 0, .slice none 0 0, .agg #[.int .i64 0, .int .i64 0]], []⟩ 8 (by kernel_rfl) (by kernel_rfl) (by kernel_rfl) (by kernel_rfl)) ?_
  intro W base args ds gs before hval hW _ _
  exact contract H enc W base args ds gs before hval hW

theorem holds : Rows.VectorMakesSaid :=
  OpenClaim.holds_of_wide 4 Try.f4 rfl rfl rfl rfl rfl rfl rfl ⟨rfl, rfl, rfl, rfl, rfl⟩ rfl rfl rfl rfl rfl (by kernel_rfl) Try.func4 (by kernel_rfl)
    (of_decide_eq_true (by kernel_rfl)) (by unfold Func.isWrapper; first | (rw [if_pos (by decide +kernel)]; kernel_rfl) | (rw [if_neg (by decide +kernel)]; exact ⟨rfl, rfl⟩))
    (fun os started H enc _ => lifted os started H enc)
end Go.Proofs.Ytefbgbciaiedeaa.vectorMakes
