/- For every text and all bytes behind its bytes, package code lays the bytes that the document says and gets the text back, and gets nothing of a beginning that is shorter: CodeTexts answers true. No condition. -/
import Derived.Test.YtbajdehcomheaaaRows
import Derived.Test.YtbajdehcomheaaaLaw
import Derived.Test.YtbajdehcomheaaaCodeMath2
namespace Go.Proofs.Ytbajdehcomheaaa.codeTexts
open Go.ChangeShapes Go.WideShapes Go.ChangeAt Go.RowKit Go.ChangeMaps

theorem full_rd {w : World} {A : Option Addr} {m c : Nat} {xs l : List Int} (h : Rd w A m c (List.take xs.length (vals .u8 xs) ++ vals .u8 l)) : Hid (Rd w A m c (vals .u8 (xs ++ l))) := by
  rw [List.take_of_length_le (by simp)] at h
  show Rd _ _ _ _ _
  rw [vals, List.map_append]; exact h

set_option maxHeartbeats 1600000 in
theorem walk (s : ByteArray) (hs0 : s.size ≤ maxLen) (A : Option Addr) (n c : Nat) (l : List Int) (w : World) (hrd : Rd w A n c (vals .u8 l)) (hb : ∀ x ∈ l, 0 ≤ x ∧ x ≤ 255) :
    Calls Try.prog 7 #[.string s, .slice A n c] w fun e w' => e = .returned (.bool true) ∧ Below w.heap.size w w' := by
  have hle := hrd.le
  have hs0 : s.size ≤ 9223372036854775807 := by simpa [maxLen] using hs0
  by_cases hs : (1000 : Int) < (s.size : Int)
  · clear hrd
    go_enter Try.func7, Try.ntmps7
    go_wp2_with fail
    refine (alive_any _).mono ?_
    rintro e wz ⟨rfl, bz⟩
    go_wp2
    go_ret
    exact ⟨rfl, bz⟩
  by_cases hn : (1000 : Int) < (n : Int)
  · clear hrd
    go_enter Try.func7, Try.ntmps7
    go_wp2_with fail
    refine (alive_any _).mono ?_
    rintro e wz ⟨rfl, bz⟩
    go_wp2
    go_ret
    exact ⟨rfl, bz⟩
  · have hlen := sbytes_len s
    have hs4 : s.size ≤ 4294967296 := by omega
    have hpl := putZ_len s.size
    obtain ⟨L, hL⟩ : ∃ L, L = putZ s.size ++ sbytes s := ⟨_, rfl⟩
    have hLlen : 0 < L.length ∧ L.length ≤ 1010 := by rw [hL, List.length_append, hlen]; omega
    have hyes : textZ (L ++ l) = some (sbytes s, L.length) := by
      have := textZ_put (t := sbytes s) (l := l) (by omega)
      rw [hlen, ← hL] at this; exact this
    have hno : textZ (L.take (L.length - 1)) = none := by
      have := textZ_short (t := sbytes s) (by omega) (sbytes_rng s) (j := L.length - 1) (by rw [hlen, ← hL]; omega)
      rw [hlen, ← hL] at this; exact this
    have hLb : ∀ x ∈ L, 0 ≤ x ∧ x ≤ 255 := by rw [hL]; exact put_bytes (sbytes_rng s) (by omega)
    have HT : ∀ W, Calls Try.prog 22 #[.string s] W fun e W' => ∃ A c, e = .returned (.slice A L.length c) ∧ Rd W' A L.length c (vals .u8 L) ∧ Below W.heap.size W W' := fun W => by
      have h := fresh_len (fresh (text_any s W hs4)) (congrArg List.length hL.symm)
      rwa [← hL] at h
    have HRT : ∀ W, Calls Try.prog 23 #[.string s] W fun e W' => ∃ A c, e = .returned (.slice A L.length c) ∧ Rd W' A L.length c (vals .u8 L) ∧ Below W.heap.size W W' := fun W => by
      have h := fresh_len (fresh (refText_any s W hs4)) (congrArg List.length hL.symm)
      rwa [← hL] at h
    obtain ⟨hl1, hl2⟩ := hLlen
    clear hL hlen hpl
    obtain ⟨m, hm⟩ : ∃ m, L.length = m := ⟨_, rfl⟩
    rw [hm] at hyes hno hl1 hl2 HT HRT
    have hmax : max 0 ((m : Int) - 1) = (m : Int) - 1 := by omega
    have hm0 : ¬ m = 0 := by omega
    have HRD := Lib.hid hrd; have HB := Lib.hid hb; have HYES := Lib.hid hyes; have HNO := Lib.hid hno; have HLB := Lib.hid hLb; have HT' := Lib.hid HT; have HRT' := Lib.hid HRT; have HM := Lib.hid hm
    clear hrd hb hyes hno hLb hm HT HRT
    have bytes2 : Hid (∀ x ∈ L ++ l, 0 ≤ x ∧ x ≤ 255) := fun x hx => (List.mem_append.1 hx).elim (HLB.out x) (HB.out x)
    have gt : ∀ (W : World) (A' : Option Addr) (k c' : Nat), Rd W A' k c' (vals .u8 (L ++ l)) → Calls Try.prog 17 #[.slice A' k c'] W fun e w' => e = .returned (.tuple #[.string s, .int .i64 m, .int .i64 0]) ∧ Below W.heap.size W w' := fun W A' k c' h =>
      (getText_any _ _ _ _ _ h bytes2.out).mono fun e w' ⟨h1, h2⟩ => ⟨by rw [h1, HYES.out]; simp [textV, textOf_sbytes], h2⟩
    have gs : ∀ (W : World) (A' : Option Addr) (k c' : Nat), Rd W A' k c' (vals .u8 (L.take (m - 1))) → Calls Try.prog 17 #[.slice A' k c'] W fun e w' => e = .returned (.tuple #[.string ⟨#[]⟩, .int .i64 0, .int .i64 3]) ∧ Below W.heap.size W w' := fun W A' k c' h =>
      (getText_any _ _ _ _ _ h (fun x hx => HLB.out x (List.mem_of_mem_take hx))).mono fun e w' ⟨h1, h2⟩ => ⟨by rw [h1, HNO.out]; rfl, h2⟩
    have GT := Lib.hid gt; have GS := Lib.hid gs; clear gt gs
    go_enter Try.func7, Try.ntmps7
    go_wp2_with fail
    refine (HT'.out _).mono ?_
    rintro e w1 ⟨A1, c1, rfl, rd1, b1⟩
    have rdb := HRD.out.below b1
    have HF := Lib.hid (rd1.upto (k := m) (m := m) (Nat.le_refl _) (Nat.le_refl _) rd1.cap)
    have hcap := rd1.cap
    have hcapi : (m : Int) - 1 ≤ (c1 : Int) := by omega
    have HRB := Lib.hid rdb; have HR1 := Lib.hid rd1; clear rdb rd1
    have HS1 : Hid (Rd w1 A1 (m - 1) c1 (vals .u8 (L.take (m - 1)))) := by
      have h := HR1.out.upto (k := m - 1) (m := c1) (by omega) (by omega) (Nat.le_refl _)
      show Rd _ _ _ _ _
      rw [vals, List.map_take]; exact h
    have HFF : ∀ {W : World} {A' : Option Addr} {k c' : Nat}, Rd W A' k c' (List.take m (vals .u8 L) ++ vals .u8 l) → Hid (Rd W A' k c' (vals .u8 (L ++ l))) := fun h => by rw [← HM.out] at h; exact full_rd h
    rcases Nat.lt_or_ge 1 m with hm1 | hm1
    · have hm2 : (0 : Int) < (m : Int) - 1 := by omega
      go_wp2_with (at_builtin; refine wpList_full rfl (.tmp 29) (.tmp 30) _ rfl 5 Try.underlying24 _ 1 Try.infoByte rfl (by decide) _ _ _ _ _ _ _ rfl rfl HF.out HRB.out (by omega) ?_; intro A3 c3 w3 rd3 b3; have HC := HFF rd3; clear rd3)
      refine (GT.out _ _ _ _ HC.out).mono ?_
      rintro e w4 ⟨rfl, b4⟩
      clear HC
      go_wp2_with fail
      refine (GS.out _ _ _ _ ((HS1.out.below b3).below b4)).mono ?_
      rintro e w5 ⟨rfl, b5⟩
      go_wp2_with fail
      refine (alive_any _).mono ?_
      rintro e w6 ⟨rfl, b6⟩
      go_wp2_with fail
      refine (HRT'.out _).mono ?_
      rintro e w7 ⟨A7, c7, rfl, rd7, b7⟩
      go_wp2_with fail
      refine (same_is L L (((((HR1.out.below b3).below b4).below b5).below b6).below b7) rd7 (r := true) (by simp)).mono ?_
      rintro e w8 ⟨rfl, q8⟩
      go_wp2
      go_ret
      exact ⟨rfl, below_quiet (below_then (below_then (below_then (below_then (below_then b1 b3) b4) b5) b6) b7) q8⟩
    · obtain rfl : m = 1 := by omega
      have hs2 := HS1.out
      simp only [Nat.sub_self] at hs2
      have HS1 := Lib.hid hs2; clear hs2
      go_wp2_with (at_builtin; refine wpList_full rfl (.tmp 29) (.tmp 30) _ rfl 5 Try.underlying24 _ 1 Try.infoByte rfl (by decide) _ _ _ _ _ _ _ rfl rfl HF.out HRB.out (by omega) ?_; intro A3 c3 w3 rd3 b3; have HC := HFF rd3; clear rd3)
      refine (GT.out _ _ _ _ HC.out).mono ?_
      rintro e w4 ⟨rfl, b4⟩
      clear HC
      go_wp2_with fail
      refine (GS.out _ _ _ _ ((HS1.out.below b3).below b4)).mono ?_
      rintro e w5 ⟨rfl, b5⟩
      go_wp2_with fail
      refine (alive_any _).mono ?_
      rintro e w6 ⟨rfl, b6⟩
      go_wp2_with fail
      refine (HRT'.out _).mono ?_
      rintro e w7 ⟨A7, c7, rfl, rd7, b7⟩
      go_wp2_with fail
      refine (same_is L L (((((HR1.out.below b3).below b4).below b5).below b6).below b7) rd7 (r := true) (by simp)).mono ?_
      rintro e w8 ⟨rfl, q8⟩
      go_wp2
      go_ret
      exact ⟨rfl, below_quiet (below_then (below_then (below_then (below_then (below_then b1 b3) b4) b5) b6) b7) q8⟩

theorem contract (H : Type) (enc : TypeId × Value → H) (W : World) (base : Nat) (args : Array Value) (ds gs : List (DataW H)) (before : List MemPlace)
    (hval : ∀ (j : Nat) t v, Try.f7.params[j]? = some t → args[j]? = some v → Value.okWide Try.prog W .any base t v)
    (hW : DataW.Whole enc Try.prog Try.f7.params.toList Rows.codeTextsSpec.vars false W args.toList ds gs before) :
    Calls Try.prog 7 args W fun e W' => ∃ v, e = .returned v ∧ Rows.codeTextsSpec.post enc Try.prog Try.f7 false true false false W args v W' := by
  have hlt : ∀ x ∈ before, x.block < W.heap.size := fun x hx => by simpa using hW.lt x hx
  refine law_step 4 Try.laid_ (by kernel_rfl) rfl Try.underlying4 rfl hW (fun xs hx => ?_) ?_
  · match xs, hx with
    | [d0, d1], _ => rfl
  · obtain ⟨p, q, hA0, hV, rfl, _, _⟩ := hW
    have hA : DataW.TrodAll enc Try.prog W 0 (fun _ => true) true Try.f7.params.toList args.toList ds p := hA0
    rw [Try.params7] at hA hval
    obtain ⟨v0, vs0, d0, ds0, p0, q0, e0, rfl, rfl, h0, r0⟩ := trodAll_cons hA
    obtain ⟨v1, vs1, d1, ds1, p1, q1, e1, rfl, rfl, h1, r1⟩ := trodAll_cons r0
    obtain ⟨rfl, rfl, rfl⟩ := trodAll_nil r1
    subst e1
    obtain rfl : args = #[v0, v1] := by cases args; simp_all
    clear e0 hA0
    obtain ⟨s, rfl, rfl, rfl, ws0⟩ := open_string Try.underlying9 (hval 0 9 v0 rfl rfl) h0
    obtain ⟨A1, n1, c1, l, rfl, rd1, wf1⟩ := open_sl (k := .u8) Try.underlying24 Try.underlying5 (by kernel_rfl) (hval 1 24 v1 rfl rfl) h1 (fun x hx => hlt x (by simp [hx]))
    exact walk s ws0 A1 n1 c1 l W rd1 (fun x hx => wf_u8 (wf1 x hx))

set_option maxRecDepth 100000 in
theorem lifted (os : Os) (started : os.Started) (H : Type) (enc : TypeId × Value → H) :
    ReturnsInHanded {} Try.checked os 7 .any (Rows.codeTextsSpec.pre6 enc Try.prog Try.f7 Rows.codeTextsRow.domain false) (Rows.codeTextsSpec.post enc Try.prog Try.f7 false true false false) := by
  refine returnsInHanded_of_change (C := Try.checked) Try.own_ started (by kernel_rfl) Try.func7
    (ChangeSpec.witness6 (enc := enc) (C := Try.checked) false ⟨#[], #[.string ⟨#[]⟩, .slice none 0 0], []⟩ 8 (by kernel_rfl) (by kernel_rfl) (by kernel_rfl) (by kernel_rfl)) ?_
  intro W base args ds gs before hval hW _ _
  exact contract H enc W base args ds gs before hval hW

theorem holds : Rows.CodeTextsSaid :=
  OpenClaim.holds_of_wide 7 Try.f7 rfl rfl rfl rfl rfl rfl rfl ⟨rfl, rfl, rfl, rfl, rfl⟩ rfl rfl rfl rfl rfl (by kernel_rfl) Try.func7 (by kernel_rfl)
    (of_decide_eq_true (by kernel_rfl)) (by unfold Func.isWrapper; first | (rw [if_pos (by decide +kernel)]; kernel_rfl) | (rw [if_neg (by decide +kernel)]; exact ⟨rfl, rfl⟩))
    (fun os started H enc _ => lifted os started H enc)
end Go.Proofs.Ytbajdehcomheaaa.codeTexts
