/- Whatever number and bytes come in: MixParts answers true: bytes behind bytes are mixed in behind them, in two parts as in one. No condition. -/
import Derived.Test.YtkmedgfoolbdaaaRows
import Derived.Test.YtkmedgfoolbdaaaLaw
import Derived.Test.YtkmedgfoolbdaaaMixApp
namespace Go.Proofs.Ytkmedgfoolbdaaa.mixParts
open Go.ChangeShapes Go.WideShapes Go.ChangeAt Go.RowKit Go.ChangeMaps

set_option maxRecDepth 100000 in
set_option maxHeartbeats 6400000 in
theorem walk (c : Int) (c0 : 0 ≤ c) (c1 : c ≤ 18446744073709551615) (A B : Option Addr) (n m d f : Nat) (l k : List Int) (w : World) (h : Rd w A n d (vals .u8 l)) (hu : Bytes l) (h2 : Rd w B m f (vals .u8 k)) (hu2 : Bytes k) :
    Calls Try.prog 7 #[.int .u64 c, .slice A n d, .slice B m f] w fun e w' => e = .returned (.bool true) ∧ Below w.heap.size w w' := by
  obtain ⟨C, hC⟩ := word_of c0 c1
  have R := Lib.hid h; have U := Lib.hid hu; have S := Lib.hid h2; have V := Lib.hid hu2
  clear c0 c1 h hu h2 hu2
  by_cases hz : (300 : Int) < (n : Int)
  · go_enter Try.func7, Try.ntmps7
    go_wp2_with fail
    refine (mixAwake_any _).mono ?_
    rintro e w1 ⟨rfl, b1⟩
    replace R := Lib.hid (R.out.below b1)
    replace S := Lib.hid (S.out.below b1)
    have B1 := Lib.hid b1
    clear b1
    go_wp2
    go_ret
    exact ⟨rfl, B1.out⟩
  by_cases hy : (300 : Int) < (m : Int)
  · go_enter Try.func7, Try.ntmps7
    go_wp2_with fail
    refine (mixAwake_any _).mono ?_
    rintro e w1 ⟨rfl, b1⟩
    replace R := Lib.hid (R.out.below b1)
    replace S := Lib.hid (S.out.below b1)
    have B1 := Lib.hid b1
    clear b1
    go_wp2
    go_ret
    exact ⟨rfl, B1.out⟩
  have UV := Lib.hid (bytes_app U.out V.out)
  have hlen : (l ++ k).length = n + m := by rw [List.length_append, show l.length = n by simpa using R.out.len, show k.length = m by simpa using S.out.len]
  obtain ⟨r1, h1⟩ : ∃ r, Hid (wd (thenW C l) = r) := ⟨_, rfl⟩
  obtain ⟨r2, h2⟩ : ∃ r, Hid (wd (thenW C (l ++ k)) = r) := ⟨_, rfl⟩
  obtain ⟨r3, h3⟩ : ∃ r, Hid (wd (sumW (l ++ k)) = r) := ⟨_, rfl⟩
  obtain ⟨r4, h4⟩ : ∃ r, Hid (wd (thenW (thenW 0#64 l) k ^^^ BitVec.ofNat 64 (l ++ k).length) = r) := ⟨_, rfl⟩
  obtain ⟨r5, h5⟩ : ∃ r, Hid (wd (thenW 0#64 l) = r) := ⟨_, rfl⟩
  obtain ⟨r6, h6⟩ : ∃ r, Hid (wd (thenW (thenW 0#64 l) k) = r) := ⟨_, rfl⟩
  have q0 : IntKind.u64.wrap ((n : Int) + (m : Int)) = (n : Int) + (m : Int) := by rw [IntKind.wrap_u64]; omega
  have q1 : bits .xor .u64 r6 ((n : Int) + (m : Int)) = r4 := by
    rw [← h6.out, ← h4.out, wd_xorl _ _ (by omega) (by omega), hlen]
    rfl
  clear hlen
  go_enter Try.func7, Try.ntmps7
  go_wp2_with fail
  refine (mixAwake_any _).mono ?_
  rintro e w1 ⟨rfl, b1⟩
  replace R := Lib.hid (R.out.below b1)
  replace S := Lib.hid (S.out.below b1)
  have B1 := Lib.hid b1
  clear b1
  go_wp2_with (first
    | (at_builtin; refine wpList_app0 rfl (.tmp 19) (.tmp 20) _ rfl 5 Try.underlying26 _ 1 Try.mixByte rfl (by decide) w1.heap.size _ _ _ _ rfl rfl R.out (vals_one _ _) (by omega) (Below.refl _ _) (Nat.le_refl _) ?_; intro A1 c1 x1 o1 r1 b1 _; clear r1; have O1 := Lib.hid o1; clear o1; have X1 := Lib.hid b1; clear b1)
    | (at_builtin; refine wpList_appS rfl (.tmp 21) (.tmp 22) _ rfl 5 Try.underlying26 _ 1 Try.mixByte rfl (by decide) w1.heap.size _ _ _ _ _ _ _ rfl rfl O1.out (S.out.below X1.out) (vals_one _ _) (by omega) X1.out X1.out.size ?_; intro A3 c3 w2 o3 r3 b3 _; clear o3 O1 X1; have T := Lib.hid r3; clear r3; replace R := Lib.hid (R.out.below b3); replace S := Lib.hid (S.out.below b3); have B2 := Lib.hid (below_then B1.out b3); clear b3))
  replace T := Lib.hid (show Rd _ _ _ _ (vals .u8 (l ++ k)) by rw [← vals_app]; exact T.out)
  go_wp2_with fail
  refine (mixThen_is rfl hC.out h1.out R.out U.out).mono ?_
  rintro e w3 ⟨rfl, b3⟩
  replace R := Lib.hid (R.out.below b3)
  replace S := Lib.hid (S.out.below b3)
  replace T := Lib.hid (T.out.below b3)
  have B3 := Lib.hid (below_then B2.out b3)
  clear b3
  go_wp2_with fail
  refine (mixThen_is (then_append C l k).symm h1.out h2.out S.out V.out).mono ?_
  rintro e w4 ⟨rfl, b4⟩
  replace R := Lib.hid (R.out.below b4)
  replace S := Lib.hid (S.out.below b4)
  replace T := Lib.hid (T.out.below b4)
  have B4 := Lib.hid (below_then B3.out b4)
  clear b4
  go_wp2_with fail
  refine (mixThen_is rfl hC.out h2.out T.out UV.out).mono ?_
  rintro e w5 ⟨rfl, b5⟩
  replace R := Lib.hid (R.out.below b5)
  replace S := Lib.hid (S.out.below b5)
  replace T := Lib.hid (T.out.below b5)
  have B5 := Lib.hid (below_then B4.out b5)
  clear b5
  go_wp2_with fail
  refine (mixThen_is (thenW_nil C) hC.out hC.out (Rd.nil_ _) bytes_nil).mono ?_
  rintro e w6 ⟨rfl, b6⟩
  replace R := Lib.hid (R.out.below b6)
  replace S := Lib.hid (S.out.below b6)
  replace T := Lib.hid (T.out.below b6)
  have B6 := Lib.hid (below_then B5.out b6)
  clear b6
  go_wp2_with fail
  refine (mixSum_is rfl h3.out T.out UV.out).mono ?_
  rintro e w7 ⟨rfl, b7⟩
  replace R := Lib.hid (R.out.below b7)
  replace S := Lib.hid (S.out.below b7)
  replace T := Lib.hid (T.out.below b7)
  have B7 := Lib.hid (below_then B6.out b7)
  clear b7
  go_wp2_with fail
  refine (mixBack_is (back_sum l k) h3.out h4.out _).mono ?_
  rintro e w8 ⟨rfl, b8⟩
  replace R := Lib.hid (R.out.below b8)
  replace S := Lib.hid (S.out.below b8)
  replace T := Lib.hid (T.out.below b8)
  have B8 := Lib.hid (below_then B7.out b8)
  clear b8
  go_wp2_with fail
  refine (mixThen_is rfl (show wd 0#64 = 0 from rfl) h5.out R.out U.out).mono ?_
  rintro e w9 ⟨rfl, b9⟩
  replace R := Lib.hid (R.out.below b9)
  replace S := Lib.hid (S.out.below b9)
  replace T := Lib.hid (T.out.below b9)
  have B9 := Lib.hid (below_then B8.out b9)
  clear b9
  go_wp2_with fail
  refine (mixThen_is rfl h5.out h6.out S.out V.out).mono ?_
  rintro e w10 ⟨rfl, b10⟩
  replace R := Lib.hid (R.out.below b10)
  replace S := Lib.hid (S.out.below b10)
  replace T := Lib.hid (T.out.below b10)
  have B10 := Lib.hid (below_then B9.out b10)
  clear b10
  go_wp2
  go_ret
  exact ⟨rfl, B10.out⟩

theorem contract (H : Type) (enc : TypeId × Value → H) (W : World) (base : Nat) (args : Array Value) (ds gs : List (DataW H)) (before : List MemPlace)
    (hval : ∀ (j : Nat) t v, Try.f7.params[j]? = some t → args[j]? = some v → Value.okWide Try.prog W .any base t v)
    (hW : DataW.Whole enc Try.prog Try.f7.params.toList Rows.mixPartsSpec.vars false W args.toList ds gs before) :
    Calls Try.prog 7 args W fun e W' => ∃ v, e = .returned v ∧ Rows.mixPartsSpec.post enc Try.prog Try.f7 false true false false W args v W' := by
  have hlt : ∀ x ∈ before, x.block < W.heap.size := fun x hx => by simpa using hW.lt x hx
  refine law_step 4 Try.laid_ (by kernel_rfl) rfl Try.underlying4 rfl hW (fun xs hx => ?_) ?_
  · match xs, hx with
    | [d0, d1, d2], _ => rfl
  · obtain ⟨p, q, hA0, hV, rfl, _, _⟩ := hW
    have hA : DataW.TrodAll enc Try.prog W 0 (fun _ => true) true Try.f7.params.toList args.toList ds p := hA0
    rw [Try.params7] at hA hval
    obtain ⟨v0, vs0, d0, ds0, p0, q0, e0, rfl, rfl, h0, r0⟩ := trodAll_cons hA
    obtain ⟨v1, vs1, d1, ds1, p1, q1, e1, rfl, rfl, h1, r1⟩ := trodAll_cons r0
    obtain ⟨v2, vs2, d2, ds2, p2, q2, e2, rfl, rfl, h2, r2⟩ := trodAll_cons r1
    obtain ⟨rfl, rfl, rfl⟩ := trodAll_nil r2
    subst e2
    subst e1
    obtain rfl : args = #[v0, v1, v2] := by cases args; simp_all
    clear e0 hA0
    obtain ⟨c, rfl, rfl, rfl, w0⟩ := open_int Try.underlying22 (hval 0 22 v0 rfl rfl) h0
    obtain ⟨lo0, hi0⟩ := wf_u64r w0
    obtain ⟨A1, n1, c1, l, rfl, rd1, wf1⟩ := open_sl (k := .u8) Try.underlying26 Try.underlying5 (by kernel_rfl) (hval 1 26 v1 rfl rfl) h1 (fun x hx => hlt x (by simp [hx]))
    obtain ⟨A2, n2, c2, k, rfl, rd2, wf2⟩ := open_sl (k := .u8) Try.underlying26 Try.underlying5 (by kernel_rfl) (hval 2 26 v2 rfl rfl) h2 (fun x hx => hlt x (by simp [hx]))
    exact walk c lo0 hi0 A1 A2 n1 n2 c1 c2 l k W rd1 (bytes_of wf1) rd2 (bytes_of wf2)

set_option maxRecDepth 100000 in
theorem lifted (os : Os) (started : os.Started) (H : Type) (enc : TypeId × Value → H) :
    ReturnsInHanded {} Try.checked os 7 .any (Rows.mixPartsSpec.pre6 enc Try.prog Try.f7 Rows.mixPartsRow.domain false) (Rows.mixPartsSpec.post enc Try.prog Try.f7 false true false false) := by
  refine returnsInHanded_of_change (C := Try.checked) Try.own_ started (by kernel_rfl) Try.func7
    (ChangeSpec.witness6 (enc := enc) (C := Try.checked) false ⟨#[], #[.int .u64 0, .slice none 0 0, .slice none 0 0], []⟩ 8 (by kernel_rfl) (by kernel_rfl) (by kernel_rfl) (by kernel_rfl)) ?_
  intro W base args ds gs before hval hW _ _
  exact contract H enc W base args ds gs before hval hW

theorem holds : Rows.MixPartsSaid :=
  OpenClaim.holds_of_wide 7 Try.f7 rfl rfl rfl rfl rfl rfl rfl ⟨rfl, rfl, rfl, rfl, rfl⟩ rfl rfl rfl rfl rfl (by kernel_rfl) Try.func7 (by kernel_rfl)
    (of_decide_eq_true (by kernel_rfl)) (by unfold Func.isWrapper; first | (rw [if_pos (by decide +kernel)]; kernel_rfl) | (rw [if_neg (by decide +kernel)]; exact ⟨rfl, rfl⟩))
    (fun os started H enc _ => lifted os started H enc)
end Go.Proofs.Ytkmedgfoolbdaaa.mixParts
