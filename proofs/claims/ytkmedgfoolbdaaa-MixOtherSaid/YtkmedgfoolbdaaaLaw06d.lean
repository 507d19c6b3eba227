/- Whatever bytes, two bytes and two numbers come in: MixOther answers true: bytes of which one is another one have another sum, and so have unlike numbers with the same bytes mixed in. No condition. -/
import Derived.Test.YtkmedgfoolbdaaaRows
import Derived.Test.YtkmedgfoolbdaaaLaw
import Derived.Test.YtkmedgfoolbdaaaMixApp
namespace Go.Proofs.Ytkmedgfoolbdaaa.mixOther
open Go.ChangeShapes Go.WideShapes Go.ChangeAt Go.RowKit Go.ChangeMaps

set_option maxRecDepth 100000 in
set_option maxHeartbeats 6400000 in
theorem walk (A B : Option Addr) (n m d f : Nat) (l k : List Int) (x y c e : Int) (w : World) (h : Rd w A n d (vals .u8 l)) (hu : Bytes l) (hx0 : 0 ≤ x) (hx1 : x ≤ 255) (hy0 : 0 ≤ y) (hy1 : y ≤ 255) (h2 : Rd w B m f (vals .u8 k)) (hu2 : Bytes k) (c0 : 0 ≤ c) (c1 : c ≤ 18446744073709551615) (e0 : 0 ≤ e) (e1 : e ≤ 18446744073709551615) :
    Calls Try.prog 6 #[.slice A n d, .int .u8 x, .int .u8 y, .slice B m f, .int .u64 c, .int .u64 e] w fun e w' => e = .returned (.bool true) ∧ Below w.heap.size w w' := by
  obtain ⟨C, hC⟩ := word_of c0 c1
  obtain ⟨E, hE⟩ := word_of e0 e1
  have R := Lib.hid h; have U := Lib.hid hu; have S := Lib.hid h2; have V := Lib.hid hu2
  have UX := Lib.hid (bytes_app1 hu hx0 hx1 hu2); have UY := Lib.hid (bytes_app1 hu hy0 hy1 hu2)
  have hxy := Lib.hid (sum_other l k hx0 hx1 hy0 hy1)
  clear c0 c1 e0 e1 h hu h2 hu2 hx0 hx1 hy0 hy1
  by_cases hz : (300 : Int) < (n : Int)
  · go_enter Try.func6, Try.ntmps6
    go_wp2_with fail
    refine (mixAwake_any _).mono ?_
    rintro e w1 ⟨rfl, b1⟩
    replace R := Lib.hid (R.out.below b1)
    replace S := Lib.hid (S.out.below b1)
    have B1 := Lib.hid b1
    clear b1
    go_wp2
    go_ret
    exact ⟨rfl, B1.out⟩
  by_cases hv : (300 : Int) < (m : Int)
  · go_enter Try.func6, Try.ntmps6
    go_wp2_with fail
    refine (mixAwake_any _).mono ?_
    rintro e w1 ⟨rfl, b1⟩
    replace R := Lib.hid (R.out.below b1)
    replace S := Lib.hid (S.out.below b1)
    have B1 := Lib.hid b1
    clear b1
    go_wp2
    go_ret
    exact ⟨rfl, B1.out⟩
  obtain ⟨r1, h1⟩ : ∃ r, Hid (wd (sumW (l ++ [x] ++ k)) = r) := ⟨_, rfl⟩
  obtain ⟨r3, h3⟩ : ∃ r, Hid (wd (thenW C l) = r) := ⟨_, rfl⟩
  by_cases he : x = y
  · subst he
    by_cases hce : C = E
    · obtain rfl : c = e := by rw [← hC.out, ← hE.out, hce]
      clear hce
      go_enter Try.func6, Try.ntmps6
      go_wp2_with fail
      refine (mixAwake_any _).mono ?_
      rintro e w1 ⟨rfl, b1⟩
      replace R := Lib.hid (R.out.below b1)
      replace S := Lib.hid (S.out.below b1)
      have B1 := Lib.hid b1
      clear b1
      go_wp2_with (first
        | (at_builtin; refine wpList_app0 rfl (.tmp 26) (.tmp 27) _ rfl 5 Try.underlying26 _ 1 Try.mixByte rfl (by decide) w1.heap.size _ _ _ _ rfl rfl R.out (vals_one _ _) (by omega) (Below.refl _ _) (Nat.le_refl _) ?_; intro A1 c1 x1 o1 r1 b1 _; clear r1; have O1 := Lib.hid o1; clear o1; have X1 := Lib.hid b1; clear b1)
        | (at_builtin; refine wpList_push rfl (.tmp 28) (.tmp 30) _ rfl 5 Try.underlying26 _ 1 Try.mixByte rfl (by decide) w1.heap.size _ _ _ (.int .u8 x) rfl rfl O1.out rfl (by omega) X1.out X1.out.size ?_; intro v2 x2 o2 b2 _; have O2 := Lib.hid o2; clear o2; have X2 := Lib.hid b2; clear b2)
        | (at_builtin; refine wpList_appS rfl (.tmp 31) (.tmp 32) _ rfl 5 Try.underlying26 _ 1 Try.mixByte rfl (by decide) w1.heap.size _ _ _ _ _ _ _ rfl rfl O2.out (S.out.below X2.out) (vals_one _ _) (by omega) X2.out X2.out.size ?_; intro A3 c3 w2 o3 r3 b3 _; clear o3 O1 X1 O2 X2; have T := Lib.hid r3; clear r3; replace R := Lib.hid (R.out.below b3); replace S := Lib.hid (S.out.below b3); have B2 := Lib.hid (below_then B1.out b3); clear b3)
        | (at_builtin; refine wpList_app0 rfl (.tmp 34) (.tmp 35) _ rfl 5 Try.underlying26 _ 1 Try.mixByte rfl (by decide) w2.heap.size _ _ _ _ rfl rfl R.out (vals_one _ _) (by omega) (Below.refl _ _) (Nat.le_refl _) ?_; intro A1 c1 x1 o1 r1 b1 _; clear r1; have O1 := Lib.hid o1; clear o1; have X1 := Lib.hid b1; clear b1)
        | (at_builtin; refine wpList_push rfl (.tmp 36) (.tmp 38) _ rfl 5 Try.underlying26 _ 1 Try.mixByte rfl (by decide) w2.heap.size _ _ _ (.int .u8 x) rfl rfl O1.out rfl (by omega) X1.out X1.out.size ?_; intro v2 x2 o2 b2 _; have O2 := Lib.hid o2; clear o2; have X2 := Lib.hid b2; clear b2)
        | (at_builtin; refine wpList_appS rfl (.tmp 39) (.tmp 40) _ rfl 5 Try.underlying26 _ 1 Try.mixByte rfl (by decide) w2.heap.size _ _ _ _ _ _ _ rfl rfl O2.out (S.out.below X2.out) (vals_one _ _) (by omega) X2.out X2.out.size ?_; intro A3 c3 w3 o3 r3 b3 _; clear o3 O1 X1 O2 X2; have Y := Lib.hid r3; clear r3; replace R := Lib.hid (R.out.below b3); replace S := Lib.hid (S.out.below b3); replace T := Lib.hid (T.out.below b3); have B3 := Lib.hid (below_then B2.out b3); clear b3))
      replace T := Lib.hid (show Rd _ _ _ _ (vals .u8 (l ++ [x] ++ k)) by rw [← vals_app1]; exact T.out)
      replace Y := Lib.hid (show Rd _ _ _ _ (vals .u8 (l ++ [x] ++ k)) by rw [← vals_app1]; exact Y.out)
      go_wp2_with fail
      refine (mixSum_is rfl h1.out T.out UX.out).mono ?_
      rintro e w4 ⟨rfl, b4⟩
      replace R := Lib.hid (R.out.below b4)
      replace S := Lib.hid (S.out.below b4)
      replace T := Lib.hid (T.out.below b4)
      replace Y := Lib.hid (Y.out.below b4)
      have B4 := Lib.hid (below_then B3.out b4)
      clear b4
      go_wp2_with fail
      refine (mixSum_is rfl h1.out Y.out UX.out).mono ?_
      rintro e w5 ⟨rfl, b5⟩
      replace R := Lib.hid (R.out.below b5)
      replace S := Lib.hid (S.out.below b5)
      replace T := Lib.hid (T.out.below b5)
      replace Y := Lib.hid (Y.out.below b5)
      have B5 := Lib.hid (below_then B4.out b5)
      clear b5
      go_wp2_with fail
      refine (mixThen_is rfl hC.out h3.out R.out U.out).mono ?_
      rintro e w6 ⟨rfl, b6⟩
      replace R := Lib.hid (R.out.below b6)
      replace S := Lib.hid (S.out.below b6)
      replace T := Lib.hid (T.out.below b6)
      replace Y := Lib.hid (Y.out.below b6)
      have B6 := Lib.hid (below_then B5.out b6)
      clear b6
      go_wp2_with fail
      refine (mixThen_is rfl hC.out h3.out R.out U.out).mono ?_
      rintro e w7 ⟨rfl, b7⟩
      replace R := Lib.hid (R.out.below b7)
      replace S := Lib.hid (S.out.below b7)
      replace T := Lib.hid (T.out.below b7)
      replace Y := Lib.hid (Y.out.below b7)
      have B7 := Lib.hid (below_then B6.out b7)
      clear b7
      go_wp2
      go_ret
      exact ⟨rfl, B7.out⟩
    · obtain ⟨r4, h4⟩ : ∃ r, Hid (wd (thenW E l) = r) := ⟨_, rfl⟩
      have n1 := wd_ne hce hC.out hE.out
      have n2 := wd_ne (fun h => hce ((then_inj l).1 h)) h3.out h4.out
      clear hce
      go_enter Try.func6, Try.ntmps6
      go_wp2_with fail
      refine (mixAwake_any _).mono ?_
      rintro e w1 ⟨rfl, b1⟩
      replace R := Lib.hid (R.out.below b1)
      replace S := Lib.hid (S.out.below b1)
      have B1 := Lib.hid b1
      clear b1
      go_wp2_with (first
        | (at_builtin; refine wpList_app0 rfl (.tmp 26) (.tmp 27) _ rfl 5 Try.underlying26 _ 1 Try.mixByte rfl (by decide) w1.heap.size _ _ _ _ rfl rfl R.out (vals_one _ _) (by omega) (Below.refl _ _) (Nat.le_refl _) ?_; intro A1 c1 x1 o1 r1 b1 _; clear r1; have O1 := Lib.hid o1; clear o1; have X1 := Lib.hid b1; clear b1)
        | (at_builtin; refine wpList_push rfl (.tmp 28) (.tmp 30) _ rfl 5 Try.underlying26 _ 1 Try.mixByte rfl (by decide) w1.heap.size _ _ _ (.int .u8 x) rfl rfl O1.out rfl (by omega) X1.out X1.out.size ?_; intro v2 x2 o2 b2 _; have O2 := Lib.hid o2; clear o2; have X2 := Lib.hid b2; clear b2)
        | (at_builtin; refine wpList_appS rfl (.tmp 31) (.tmp 32) _ rfl 5 Try.underlying26 _ 1 Try.mixByte rfl (by decide) w1.heap.size _ _ _ _ _ _ _ rfl rfl O2.out (S.out.below X2.out) (vals_one _ _) (by omega) X2.out X2.out.size ?_; intro A3 c3 w2 o3 r3 b3 _; clear o3 O1 X1 O2 X2; have T := Lib.hid r3; clear r3; replace R := Lib.hid (R.out.below b3); replace S := Lib.hid (S.out.below b3); have B2 := Lib.hid (below_then B1.out b3); clear b3)
        | (at_builtin; refine wpList_app0 rfl (.tmp 34) (.tmp 35) _ rfl 5 Try.underlying26 _ 1 Try.mixByte rfl (by decide) w2.heap.size _ _ _ _ rfl rfl R.out (vals_one _ _) (by omega) (Below.refl _ _) (Nat.le_refl _) ?_; intro A1 c1 x1 o1 r1 b1 _; clear r1; have O1 := Lib.hid o1; clear o1; have X1 := Lib.hid b1; clear b1)
        | (at_builtin; refine wpList_push rfl (.tmp 36) (.tmp 38) _ rfl 5 Try.underlying26 _ 1 Try.mixByte rfl (by decide) w2.heap.size _ _ _ (.int .u8 x) rfl rfl O1.out rfl (by omega) X1.out X1.out.size ?_; intro v2 x2 o2 b2 _; have O2 := Lib.hid o2; clear o2; have X2 := Lib.hid b2; clear b2)
        | (at_builtin; refine wpList_appS rfl (.tmp 39) (.tmp 40) _ rfl 5 Try.underlying26 _ 1 Try.mixByte rfl (by decide) w2.heap.size _ _ _ _ _ _ _ rfl rfl O2.out (S.out.below X2.out) (vals_one _ _) (by omega) X2.out X2.out.size ?_; intro A3 c3 w3 o3 r3 b3 _; clear o3 O1 X1 O2 X2; have Y := Lib.hid r3; clear r3; replace R := Lib.hid (R.out.below b3); replace S := Lib.hid (S.out.below b3); replace T := Lib.hid (T.out.below b3); have B3 := Lib.hid (below_then B2.out b3); clear b3))
      replace T := Lib.hid (show Rd _ _ _ _ (vals .u8 (l ++ [x] ++ k)) by rw [← vals_app1]; exact T.out)
      replace Y := Lib.hid (show Rd _ _ _ _ (vals .u8 (l ++ [x] ++ k)) by rw [← vals_app1]; exact Y.out)
      go_wp2_with fail
      refine (mixSum_is rfl h1.out T.out UX.out).mono ?_
      rintro e w4 ⟨rfl, b4⟩
      replace R := Lib.hid (R.out.below b4)
      replace S := Lib.hid (S.out.below b4)
      replace T := Lib.hid (T.out.below b4)
      replace Y := Lib.hid (Y.out.below b4)
      have B4 := Lib.hid (below_then B3.out b4)
      clear b4
      go_wp2_with fail
      refine (mixSum_is rfl h1.out Y.out UX.out).mono ?_
      rintro e w5 ⟨rfl, b5⟩
      replace R := Lib.hid (R.out.below b5)
      replace S := Lib.hid (S.out.below b5)
      replace T := Lib.hid (T.out.below b5)
      replace Y := Lib.hid (Y.out.below b5)
      have B5 := Lib.hid (below_then B4.out b5)
      clear b5
      go_wp2_with fail
      refine (mixThen_is rfl hC.out h3.out R.out U.out).mono ?_
      rintro e w6 ⟨rfl, b6⟩
      replace R := Lib.hid (R.out.below b6)
      replace S := Lib.hid (S.out.below b6)
      replace T := Lib.hid (T.out.below b6)
      replace Y := Lib.hid (Y.out.below b6)
      have B6 := Lib.hid (below_then B5.out b6)
      clear b6
      go_wp2_with fail
      refine (mixThen_is rfl hE.out h4.out R.out U.out).mono ?_
      rintro e w7 ⟨rfl, b7⟩
      replace R := Lib.hid (R.out.below b7)
      replace S := Lib.hid (S.out.below b7)
      replace T := Lib.hid (T.out.below b7)
      replace Y := Lib.hid (Y.out.below b7)
      have B7 := Lib.hid (below_then B6.out b7)
      clear b7
      go_wp2
      go_ret
      exact ⟨rfl, B7.out⟩
  · obtain ⟨r2, h2⟩ : ∃ r, Hid (wd (sumW (l ++ [y] ++ k)) = r) := ⟨_, rfl⟩
    have n3 := wd_ne (fun h => he (hxy.out.1 h)) h1.out h2.out
    have n4 : (x == y) = false := by simpa using he
    clear he
    by_cases hce : C = E
    · obtain rfl : c = e := by rw [← hC.out, ← hE.out, hce]
      clear hce
      go_enter Try.func6, Try.ntmps6
      go_wp2_with fail
      refine (mixAwake_any _).mono ?_
      rintro e w1 ⟨rfl, b1⟩
      replace R := Lib.hid (R.out.below b1)
      replace S := Lib.hid (S.out.below b1)
      have B1 := Lib.hid b1
      clear b1
      go_wp2_with (first
        | (at_builtin; refine wpList_app0 rfl (.tmp 26) (.tmp 27) _ rfl 5 Try.underlying26 _ 1 Try.mixByte rfl (by decide) w1.heap.size _ _ _ _ rfl rfl R.out (vals_one _ _) (by omega) (Below.refl _ _) (Nat.le_refl _) ?_; intro A1 c1 x1 o1 r1 b1 _; clear r1; have O1 := Lib.hid o1; clear o1; have X1 := Lib.hid b1; clear b1)
        | (at_builtin; refine wpList_push rfl (.tmp 28) (.tmp 30) _ rfl 5 Try.underlying26 _ 1 Try.mixByte rfl (by decide) w1.heap.size _ _ _ (.int .u8 x) rfl rfl O1.out rfl (by omega) X1.out X1.out.size ?_; intro v2 x2 o2 b2 _; have O2 := Lib.hid o2; clear o2; have X2 := Lib.hid b2; clear b2)
        | (at_builtin; refine wpList_appS rfl (.tmp 31) (.tmp 32) _ rfl 5 Try.underlying26 _ 1 Try.mixByte rfl (by decide) w1.heap.size _ _ _ _ _ _ _ rfl rfl O2.out (S.out.below X2.out) (vals_one _ _) (by omega) X2.out X2.out.size ?_; intro A3 c3 w2 o3 r3 b3 _; clear o3 O1 X1 O2 X2; have T := Lib.hid r3; clear r3; replace R := Lib.hid (R.out.below b3); replace S := Lib.hid (S.out.below b3); have B2 := Lib.hid (below_then B1.out b3); clear b3)
        | (at_builtin; refine wpList_app0 rfl (.tmp 34) (.tmp 35) _ rfl 5 Try.underlying26 _ 1 Try.mixByte rfl (by decide) w2.heap.size _ _ _ _ rfl rfl R.out (vals_one _ _) (by omega) (Below.refl _ _) (Nat.le_refl _) ?_; intro A1 c1 x1 o1 r1 b1 _; clear r1; have O1 := Lib.hid o1; clear o1; have X1 := Lib.hid b1; clear b1)
        | (at_builtin; refine wpList_push rfl (.tmp 36) (.tmp 38) _ rfl 5 Try.underlying26 _ 1 Try.mixByte rfl (by decide) w2.heap.size _ _ _ (.int .u8 y) rfl rfl O1.out rfl (by omega) X1.out X1.out.size ?_; intro v2 x2 o2 b2 _; have O2 := Lib.hid o2; clear o2; have X2 := Lib.hid b2; clear b2)
        | (at_builtin; refine wpList_appS rfl (.tmp 39) (.tmp 40) _ rfl 5 Try.underlying26 _ 1 Try.mixByte rfl (by decide) w2.heap.size _ _ _ _ _ _ _ rfl rfl O2.out (S.out.below X2.out) (vals_one _ _) (by omega) X2.out X2.out.size ?_; intro A3 c3 w3 o3 r3 b3 _; clear o3 O1 X1 O2 X2; have Y := Lib.hid r3; clear r3; replace R := Lib.hid (R.out.below b3); replace S := Lib.hid (S.out.below b3); replace T := Lib.hid (T.out.below b3); have B3 := Lib.hid (below_then B2.out b3); clear b3))
      replace T := Lib.hid (show Rd _ _ _ _ (vals .u8 (l ++ [x] ++ k)) by rw [← vals_app1]; exact T.out)
      replace Y := Lib.hid (show Rd _ _ _ _ (vals .u8 (l ++ [y] ++ k)) by rw [← vals_app1]; exact Y.out)
      go_wp2_with fail
      refine (mixSum_is rfl h1.out T.out UX.out).mono ?_
      rintro e w4 ⟨rfl, b4⟩
      replace R := Lib.hid (R.out.below b4)
      replace S := Lib.hid (S.out.below b4)
      replace T := Lib.hid (T.out.below b4)
      replace Y := Lib.hid (Y.out.below b4)
      have B4 := Lib.hid (below_then B3.out b4)
      clear b4
      go_wp2_with fail
      refine (mixSum_is rfl h2.out Y.out UY.out).mono ?_
      rintro e w5 ⟨rfl, b5⟩
      replace R := Lib.hid (R.out.below b5)
      replace S := Lib.hid (S.out.below b5)
      replace T := Lib.hid (T.out.below b5)
      replace Y := Lib.hid (Y.out.below b5)
      have B5 := Lib.hid (below_then B4.out b5)
      clear b5
      go_wp2_with fail
      refine (mixThen_is rfl hC.out h3.out R.out U.out).mono ?_
      rintro e w6 ⟨rfl, b6⟩
      replace R := Lib.hid (R.out.below b6)
      replace S := Lib.hid (S.out.below b6)
      replace T := Lib.hid (T.out.below b6)
      replace Y := Lib.hid (Y.out.below b6)
      have B6 := Lib.hid (below_then B5.out b6)
      clear b6
      go_wp2_with fail
      refine (mixThen_is rfl hC.out h3.out R.out U.out).mono ?_
      rintro e w7 ⟨rfl, b7⟩
      replace R := Lib.hid (R.out.below b7)
      replace S := Lib.hid (S.out.below b7)
      replace T := Lib.hid (T.out.below b7)
      replace Y := Lib.hid (Y.out.below b7)
      have B7 := Lib.hid (below_then B6.out b7)
      clear b7
      go_wp2
      go_ret
      exact ⟨rfl, B7.out⟩
    · obtain ⟨r4, h4⟩ : ∃ r, Hid (wd (thenW E l) = r) := ⟨_, rfl⟩
      have n1 := wd_ne hce hC.out hE.out
      have n2 := wd_ne (fun h => hce ((then_inj l).1 h)) h3.out h4.out
      clear hce
      go_enter Try.func6, Try.ntmps6
      go_wp2_with fail
      refine (mixAwake_any _).mono ?_
      rintro e w1 ⟨rfl, b1⟩
      replace R := Lib.hid (R.out.below b1)
      replace S := Lib.hid (S.out.below b1)
      have B1 := Lib.hid b1
      clear b1
      go_wp2_with (first
        | (at_builtin; refine wpList_app0 rfl (.tmp 26) (.tmp 27) _ rfl 5 Try.underlying26 _ 1 Try.mixByte rfl (by decide) w1.heap.size _ _ _ _ rfl rfl R.out (vals_one _ _) (by omega) (Below.refl _ _) (Nat.le_refl _) ?_; intro A1 c1 x1 o1 r1 b1 _; clear r1; have O1 := Lib.hid o1; clear o1; have X1 := Lib.hid b1; clear b1)
        | (at_builtin; refine wpList_push rfl (.tmp 28) (.tmp 30) _ rfl 5 Try.underlying26 _ 1 Try.mixByte rfl (by decide) w1.heap.size _ _ _ (.int .u8 x) rfl rfl O1.out rfl (by omega) X1.out X1.out.size ?_; intro v2 x2 o2 b2 _; have O2 := Lib.hid o2; clear o2; have X2 := Lib.hid b2; clear b2)
        | (at_builtin; refine wpList_appS rfl (.tmp 31) (.tmp 32) _ rfl 5 Try.underlying26 _ 1 Try.mixByte rfl (by decide) w1.heap.size _ _ _ _ _ _ _ rfl rfl O2.out (S.out.below X2.out) (vals_one _ _) (by omega) X2.out X2.out.size ?_; intro A3 c3 w2 o3 r3 b3 _; clear o3 O1 X1 O2 X2; have T := Lib.hid r3; clear r3; replace R := Lib.hid (R.out.below b3); replace S := Lib.hid (S.out.below b3); have B2 := Lib.hid (below_then B1.out b3); clear b3)
        | (at_builtin; refine wpList_app0 rfl (.tmp 34) (.tmp 35) _ rfl 5 Try.underlying26 _ 1 Try.mixByte rfl (by decide) w2.heap.size _ _ _ _ rfl rfl R.out (vals_one _ _) (by omega) (Below.refl _ _) (Nat.le_refl _) ?_; intro A1 c1 x1 o1 r1 b1 _; clear r1; have O1 := Lib.hid o1; clear o1; have X1 := Lib.hid b1; clear b1)
        | (at_builtin; refine wpList_push rfl (.tmp 36) (.tmp 38) _ rfl 5 Try.underlying26 _ 1 Try.mixByte rfl (by decide) w2.heap.size _ _ _ (.int .u8 y) rfl rfl O1.out rfl (by omega) X1.out X1.out.size ?_; intro v2 x2 o2 b2 _; have O2 := Lib.hid o2; clear o2; have X2 := Lib.hid b2; clear b2)
        | (at_builtin; refine wpList_appS rfl (.tmp 39) (.tmp 40) _ rfl 5 Try.underlying26 _ 1 Try.mixByte rfl (by decide) w2.heap.size _ _ _ _ _ _ _ rfl rfl O2.out (S.out.below X2.out) (vals_one _ _) (by omega) X2.out X2.out.size ?_; intro A3 c3 w3 o3 r3 b3 _; clear o3 O1 X1 O2 X2; have Y := Lib.hid r3; clear r3; replace R := Lib.hid (R.out.below b3); replace S := Lib.hid (S.out.below b3); replace T := Lib.hid (T.out.below b3); have B3 := Lib.hid (below_then B2.out b3); clear b3))
      replace T := Lib.hid (show Rd _ _ _ _ (vals .u8 (l ++ [x] ++ k)) by rw [← vals_app1]; exact T.out)
      replace Y := Lib.hid (show Rd _ _ _ _ (vals .u8 (l ++ [y] ++ k)) by rw [← vals_app1]; exact Y.out)
      go_wp2_with fail
      refine (mixSum_is rfl h1.out T.out UX.out).mono ?_
      rintro e w4 ⟨rfl, b4⟩
      replace R := Lib.hid (R.out.below b4)
      replace S := Lib.hid (S.out.below b4)
      replace T := Lib.hid (T.out.below b4)
      replace Y := Lib.hid (Y.out.below b4)
      have B4 := Lib.hid (below_then B3.out b4)
      clear b4
      go_wp2_with fail
      refine (mixSum_is rfl h2.out Y.out UY.out).mono ?_
      rintro e w5 ⟨rfl, b5⟩
      replace R := Lib.hid (R.out.below b5)
      replace S := Lib.hid (S.out.below b5)
      replace T := Lib.hid (T.out.below b5)
      replace Y := Lib.hid (Y.out.below b5)
      have B5 := Lib.hid (below_then B4.out b5)
      clear b5
      go_wp2_with fail
      refine (mixThen_is rfl hC.out h3.out R.out U.out).mono ?_
      rintro e w6 ⟨rfl, b6⟩
      replace R := Lib.hid (R.out.below b6)
      replace S := Lib.hid (S.out.below b6)
      replace T := Lib.hid (T.out.below b6)
      replace Y := Lib.hid (Y.out.below b6)
      have B6 := Lib.hid (below_then B5.out b6)
      clear b6
      go_wp2_with fail
      refine (mixThen_is rfl hE.out h4.out R.out U.out).mono ?_
      rintro e w7 ⟨rfl, b7⟩
      replace R := Lib.hid (R.out.below b7)
      replace S := Lib.hid (S.out.below b7)
      replace T := Lib.hid (T.out.below b7)
      replace Y := Lib.hid (Y.out.below b7)
      have B7 := Lib.hid (below_then B6.out b7)
      clear b7
      go_wp2
      go_ret
      exact ⟨rfl, B7.out⟩

theorem contract (H : Type) (enc : TypeId × Value → H) (W : World) (base : Nat) (args : Array Value) (ds gs : List (DataW H)) (before : List MemPlace)
    (hval : ∀ (j : Nat) t v, Try.f6.params[j]? = some t → args[j]? = some v → Value.okWide Try.prog W .any base t v)
    (hW : DataW.Whole enc Try.prog Try.f6.params.toList Rows.mixOtherSpec.vars false W args.toList ds gs before) :
    Calls Try.prog 6 args W fun e W' => ∃ v, e = .returned v ∧ Rows.mixOtherSpec.post enc Try.prog Try.f6 false true false false W args v W' := by
  have hlt : ∀ x ∈ before, x.block < W.heap.size := fun x hx => by simpa using hW.lt x hx
  refine law_step 4 Try.laid_ (by kernel_rfl) rfl Try.underlying4 rfl hW (fun xs hx => ?_) ?_
  · match xs, hx with
    | [d0, d1, d2, d3, d4, d5], _ => rfl
  · obtain ⟨p, q, hA0, hV, rfl, _, _⟩ := hW
    have hA : DataW.TrodAll enc Try.prog W 0 (fun _ => true) true Try.f6.params.toList args.toList ds p := hA0
    rw [Try.params6] at hA hval
    obtain ⟨v0, vs0, d0, ds0, p0, q0, e0, rfl, rfl, h0, r0⟩ := trodAll_cons hA
    obtain ⟨v1, vs1, d1, ds1, p1, q1, e1, rfl, rfl, h1, r1⟩ := trodAll_cons r0
    obtain ⟨v2, vs2, d2, ds2, p2, q2, e2, rfl, rfl, h2, r2⟩ := trodAll_cons r1
    obtain ⟨v3, vs3, d3, ds3, p3, q3, e3, rfl, rfl, h3, r3⟩ := trodAll_cons r2
    obtain ⟨v4, vs4, d4, ds4, p4, q4, e4, rfl, rfl, h4, r4⟩ := trodAll_cons r3
    obtain ⟨v5, vs5, d5, ds5, p5, q5, e5, rfl, rfl, h5, r5⟩ := trodAll_cons r4
    obtain ⟨rfl, rfl, rfl⟩ := trodAll_nil r5
    subst e5
    subst e4
    subst e3
    subst e2
    subst e1
    obtain rfl : args = #[v0, v1, v2, v3, v4, v5] := by cases args; simp_all
    clear e0 hA0
    obtain ⟨A0, n0, c0, l, rfl, rd0, wf0⟩ := open_sl (k := .u8) Try.underlying26 Try.underlying5 (by kernel_rfl) (hval 0 26 v0 rfl rfl) h0 (fun x hx => hlt x (by simp [hx]))
    obtain ⟨x, rfl, rfl, rfl, w1⟩ := open_int Try.underlying5 (hval 1 5 v1 rfl rfl) h1
    obtain ⟨lo1, hi1⟩ := wf_u8 w1
    obtain ⟨y, rfl, rfl, rfl, w2⟩ := open_int Try.underlying5 (hval 2 5 v2 rfl rfl) h2
    obtain ⟨lo2, hi2⟩ := wf_u8 w2
    obtain ⟨A3, n3, c3, k, rfl, rd3, wf3⟩ := open_sl (k := .u8) Try.underlying26 Try.underlying5 (by kernel_rfl) (hval 3 26 v3 rfl rfl) h3 (fun x hx => hlt x (by simp [hx]))
    obtain ⟨c, rfl, rfl, rfl, w4⟩ := open_int Try.underlying22 (hval 4 22 v4 rfl rfl) h4
    obtain ⟨lo4, hi4⟩ := wf_u64r w4
    obtain ⟨e, rfl, rfl, rfl, w5⟩ := open_int Try.underlying22 (hval 5 22 v5 rfl rfl) h5
    obtain ⟨lo5, hi5⟩ := wf_u64r w5
    exact walk A0 A3 n0 n3 c0 c3 l k x y c e W rd0 (bytes_of wf0) lo1 hi1 lo2 hi2 rd3 (bytes_of wf3) lo4 hi4 lo5 hi5

set_option maxRecDepth 100000 in
theorem lifted (os : Os) (started : os.Started) (H : Type) (enc : TypeId × Value → H) :
    ReturnsInHanded {} Try.checked os 6 .any (Rows.mixOtherSpec.pre6 enc Try.prog Try.f6 Rows.mixOtherRow.domain false) (Rows.mixOtherSpec.post enc Try.prog Try.f6 false true false false) := by
  refine returnsInHanded_of_change (C := Try.checked) Try.own_ started (by kernel_rfl) Try.func6
    (ChangeSpec.witness6 (enc := enc) (C := Try.checked) false ⟨#[], #[.slice none 0 0, .int .u8 0, .int .u8 0, .slice none 0 0, .int .u64 0, .int .u64 0], []⟩ 8 (by kernel_rfl) (by kernel_rfl) (by kernel_rfl) (by kernel_rfl)) ?_
  intro W base args ds gs before hval hW _ _
  exact contract H enc W base args ds gs before hval hW

theorem holds : Rows.MixOtherSaid :=
  OpenClaim.holds_of_wide 6 Try.f6 rfl rfl rfl rfl rfl rfl rfl ⟨rfl, rfl, rfl, rfl, rfl⟩ rfl rfl rfl rfl rfl (by kernel_rfl) Try.func6 (by kernel_rfl)
    (of_decide_eq_true (by kernel_rfl)) (by unfold Func.isWrapper; first | (rw [if_pos (by decide +kernel)]; kernel_rfl) | (rw [if_neg (by decide +kernel)]; exact ⟨rfl, rfl⟩))
    (fun os started H enc _ => lifted os started H enc)
end Go.Proofs.Ytkmedgfoolbdaaa.mixOther
