/- Of any two rows of numbers, put one behind the other, package code gets one behind the other: CodeTwo answers true. No condition. -/
import Derived.Test.YtbajdehcomheaaaRows
import Derived.Test.YtbajdehcomheaaaLaw
import Derived.Test.YtbajdehcomheaaaCodeMath2
import Derived.Test.YtbajdehcomheaaaMem2
namespace Go.Proofs.Ytbajdehcomheaaa.codeTwo
open Go.ChangeShapes Go.WideShapes Go.ChangeAt Go.RowKit Go.ChangeMaps

set_option maxHeartbeats 1600000 in
theorem walk (A0 : Option Addr) (n0 c0 : Nat) (l0 : List Int) (A : Option Addr) (n c : Nat) (l : List Int) (w : World) (hrd0 : Rd w A0 n0 c0 (vals .i64 l0)) (hin0 : ∀ x ∈ l0, inI x) (hrd : Rd w A n c (vals .i64 l)) (hin : ∀ x ∈ l, inI x)
    (hz0 : n0 ≤ 140737488351232) (hz : n ≤ 140737488351232) :
    Calls Try.prog 10 #[.slice A0 n0 c0, .slice A n c] w fun e w' => e = .returned (.bool true) ∧ Below w.heap.size w w' := by
  by_cases hs : (300 : Int) < (n0 : Int) + (n : Int)
  · clear hrd hrd0
    go_enter Try.func10, Try.ntmps10
    go_wp2_with fail
    refine (alive_any _).mono ?_
    rintro e wz ⟨rfl, bz⟩
    go_wp2
    go_ret
    exact ⟨rfl, bz⟩
  · have hlen0 : l0.length = n0 := by simpa using hrd0.len
    have hlen : l.length = n := by simpa using hrd.len
    have hpl0 := putZ_len n0
    have hcl0 := catZ_len l0
    have hpl := putZ_len n
    have hcl := catZ_len l
    obtain ⟨L, hL⟩ : ∃ L, L = putZ n0 ++ catZ l0 := ⟨_, rfl⟩
    obtain ⟨M, hM⟩ : ∃ M, M = putZ n ++ catZ l := ⟨_, rfl⟩
    have hLlen : 0 < L.length ∧ L.length ≤ 3010 := by rw [hL, List.length_append]; omega
    have hMlen : 0 < M.length ∧ M.length ≤ 3010 := by rw [hM, List.length_append]; omega
    have hyes : numsZ (L ++ M) = some (l0, L.length) := by
      have := numsZ_put (l := l0) (rest := M) (by omega) hin0
      rw [hlen0, ← hL] at this; exact this
    have hyes2 : numsZ M = some (l, M.length) := by
      have := numsZ_put (l := l) (rest := []) (by omega) hin
      rw [hlen, ← hM, List.append_nil] at this; exact this
    have hLb : ∀ x ∈ L, 0 ≤ x ∧ x ≤ 255 := by rw [hL]; exact put_bytes (catZ_bytes hin0) (by omega)
    have hMb : ∀ x ∈ M, 0 ≤ x ∧ x ≤ 255 := by rw [hM]; exact put_bytes (catZ_bytes hin) (by omega)
    have HT : ∀ W, Rd W A0 n0 c0 (vals .i64 l0) → Calls Try.prog 24 #[.slice A0 n0 c0] W (Fresh 5 .u8 L W) := fun W h0 => by rw [hL]; exact fresh (nums_any A0 n0 c0 l0 W h0 hin0 (by omega))
    have HT2 : ∀ W, Rd W A n c (vals .i64 l) → Calls Try.prog 24 #[.slice A n c] W (Fresh 5 .u8 M W) := fun W h0 => by rw [hM]; exact fresh (nums_any A n c l W h0 hin (by omega))
    obtain ⟨hl1, hl2⟩ := hLlen
    obtain ⟨hm1, hm2⟩ := hMlen
    clear hL hM hpl hcl hpl0 hcl0
    have HR := Lib.hid hrd; have HR0 := Lib.hid hrd0; have HY := Lib.hid hyes; have HY2 := Lib.hid hyes2; have HMB := Lib.hid hMb; have HT' := Lib.hid HT; have HT2' := Lib.hid HT2; have HLEN := Lib.hid hlen; have HLEN0 := Lib.hid hlen0
    have HLM : Hid (∀ x ∈ L ++ M, 0 ≤ x ∧ x ≤ 255) := fun x hx => (List.mem_append.1 hx).elim (hLb x) (hMb x)
    clear hrd hrd0 hyes hyes2 hLb hMb HT HT2 hlen hlen0 hin hin0
    have gt : ∀ (W : World) (A' : Option Addr) (k c' : Nat), Hid (k ≤ 4294967296) ∧ Rd W A' k c' (vals .u8 (L ++ M)) → Calls Try.prog 19 #[.slice A' k c'] W fun e w' => ∃ A2 c2, e = .returned (.tuple #[.slice A2 n0 c2, .int .i64 L.length, .int .i64 0]) ∧ Rd w' A2 n0 c2 (vals .i64 l0) ∧ Below W.heap.size W w' := fun W A' k c' h =>
      (getNums_any _ _ _ _ _ h.2 HLM.out h.1.out).mono fun e w' ⟨h1, h2⟩ => by
        rw [HY.out] at h1
        obtain ⟨A2, c2, h3, h4⟩ := h1
        rw [HLEN0.out] at h3 h4
        exact ⟨A2, c2, h3, h4, h2⟩
    have gt2 : ∀ (W : World) (A' : Option Addr) (k c' : Nat), Hid (k ≤ 4294967296) ∧ Rd W A' k c' (vals .u8 M) → Calls Try.prog 19 #[.slice A' k c'] W fun e w' => ∃ A2 c2, e = .returned (.tuple #[.slice A2 n c2, .int .i64 M.length, .int .i64 0]) ∧ Rd w' A2 n c2 (vals .i64 l) ∧ Below W.heap.size W w' := fun W A' k c' h =>
      (getNums_any _ _ _ _ _ h.2 HMB.out h.1.out).mono fun e w' ⟨h1, h2⟩ => by
        rw [HY2.out] at h1
        obtain ⟨A2, c2, h3, h4⟩ := h1
        rw [HLEN.out] at h3 h4
        exact ⟨A2, c2, h3, h4, h2⟩
    have GT := Lib.hid gt; have GT2 := Lib.hid gt2; clear gt gt2
    have HV : ∀ {W : World} {A' : Option Addr} {k c' : Nat}, Rd W A' k c' (vals .u8 L ++ vals .u8 M) → Hid (Rd W A' k c' (vals .u8 (L ++ M))) := fun h => by show Rd _ _ _ _ _; rw [vals, List.map_append]; exact h
    go_enter Try.func10, Try.ntmps10
    go_wp2_with fail
    refine (HT'.out _ HR0.out).mono ?_
    rintro e w1 ⟨A1, c1, rfl, own1, rd1, b1⟩
    have hr1 := HR.out.below b1
    have HR1 := Lib.hid hr1; clear hr1
    go_wp2_with fail
    refine (HT2'.out _ HR1.out).mono ?_
    rintro e w2 ⟨A2, c2, rfl, own2, rd2, b2⟩
    have own1 := own_below own1 b2
    have b2 := below_then b1 b2
    have hsz2 := b2.size
    have OWN := Lib.hid own1; have RD2 := Lib.hid rd2; clear own1 own2 rd1 rd2
    go_wp2_with (at_builtin; refine wpList_appS rfl (.tmp 20) (.tmp 22) _ rfl 5 Try.underlying24 _ 1 Try.infoByte rfl (by decide) w.heap.size _ _ _ _ _ _ _ rfl rfl OWN.out RD2.out (vals_one _ _) (by omega) b2 hsz2 ?_; intro A3 c3 w3 _ rd3 b3 _; have HC := HV rd3; have hcap3 := rd3.cap; obtain ⟨b, o, rfl, _⟩ := rd3.hsize (by omega); clear rd3)
    refine (GT.out _ _ _ _ ⟨(by show _ ≤ 4294967296; omega), HC.out⟩).mono ?_
    rintro e w4 ⟨A4, c4, rfl, rd4, b4⟩
    have hcut := (HC.out.below b4).cut8 (k := L.length) (by omega)
    rw [if_neg (by omega), List.drop_left, Nat.add_sub_cancel_left] at hcut
    have HCUT := Lib.hid hcut; have RD4 := Lib.hid rd4; clear hcut rd4 HC
    have hc3 : ¬ c3 = L.length := by omega
    have b4 := below_then b3 b4
    have hbd : ((L.length : Nat) : Int) ≤ (L.length : Int) + (M.length : Int) := by omega
    go_wp2_with fail
    refine (GT2.out _ _ _ _ ⟨(by show _ ≤ 4294967296; omega), HCUT.out⟩).mono ?_
    rintro e w5 ⟨A5, c5, rfl, rd5, b5⟩
    have rd4 := RD4.out.below b5
    have b5 := below_then b4 b5
    go_wp2_with fail
    refine (alive_any _).mono ?_
    rintro e w6 ⟨rfl, b6⟩
    have rd4 := rd4.below b6
    have rd5 := rd5.below b6
    have b6 := below_then b5 b6
    go_wp2_with fail
    refine (ints_is l0 l0 rd4 (HR0.out.below b6) (r := true) (by simp)).mono ?_
    rintro e w7 ⟨rfl, q7⟩
    have rd5 := rd5.below (q7.below _)
    have b7 := below_quiet b6 q7
    go_wp2_with fail
    refine (ints_is l l rd5 (HR.out.below b7) (r := true) (by simp)).mono ?_
    rintro e w8 ⟨rfl, q8⟩
    have b8 := below_quiet b7 q8
    go_wp2
    go_ret
    exact ⟨rfl, b8⟩

theorem contract (H : Type) (enc : TypeId × Value → H) (W : World) (base : Nat) (args : Array Value) (ds gs : List (DataW H)) (before : List MemPlace)
    (hval : ∀ (j : Nat) t v, Try.f10.params[j]? = some t → args[j]? = some v → Value.okWide Try.prog W .any base t v)
    (hW : DataW.Whole enc Try.prog Try.f10.params.toList Rows.codeTwoSpec.vars false W args.toList ds gs before)
    (hsz : (DataW.weightsEach Try.prog (Try.f10.params.toList ++ Rows.codeTwoSpec.plain.varTypes Try.prog) (ds ++ gs)).all (· ≤ reachBytes) = true) :
    Calls Try.prog 10 args W fun e W' => ∃ v, e = .returned v ∧ Rows.codeTwoSpec.post enc Try.prog Try.f10 false true false false W args v W' := by
  have hlt : ∀ x ∈ before, x.block < W.heap.size := fun x hx => by simpa using hW.lt x hx
  refine law_step 4 Try.laid_ (by kernel_rfl) rfl Try.underlying4 rfl hW (fun xs hx => ?_) ?_
  · match xs, hx with
    | [d0, d1], _ => rfl
  · obtain ⟨p, q, hA0, hV, rfl, _, _⟩ := hW
    have hA : DataW.TrodAll enc Try.prog W 0 (fun _ => true) true Try.f10.params.toList args.toList ds p := hA0
    rw [Try.params10] at hA hval hsz
    obtain ⟨v0, vs0, d0, ds0, p0, q0, e0, rfl, rfl, h0, r0⟩ := trodAll_cons hA
    obtain ⟨v1, vs1, d1, ds1, p1, q1, e1, rfl, rfl, h1, r1⟩ := trodAll_cons r0
    obtain ⟨rfl, rfl, rfl⟩ := trodAll_nil r1
    subst e1
    obtain rfl : args = #[v0, v1] := by cases args; simp_all
    clear e0 hA0
    obtain ⟨A0, n0, c0, l0, rfl, rd0, wf0, hz0⟩ := open_slz (k := .i64) Try.underlying32 Try.underlying3 (by kernel_rfl) (hval 0 32 v0 rfl rfl) h0 (fun x hx => hlt x (by simp [hx]))
    have sz0 := sized_len hsz (j := 0) rfl rfl Try.underlying32 (by decide +kernel) hz0
    obtain ⟨A1, n1, c1, l, rfl, rd1, wf1, hz1⟩ := open_slz (k := .i64) Try.underlying32 Try.underlying3 (by kernel_rfl) (hval 1 32 v1 rfl rfl) h1 (fun x hx => hlt x (by simp [hx]))
    have sz1 := sized_len hsz (j := 1) rfl rfl Try.underlying32 (by decide +kernel) hz1
    exact walk A0 n0 c0 l0 A1 n1 c1 l W rd0 (fun x hx => wf_i64 (wf0 x hx)) rd1 (fun x hx => wf_i64 (wf1 x hx)) sz0 sz1

set_option maxRecDepth 100000 in
theorem lifted (os : Os) (started : os.Started) (H : Type) (enc : TypeId × Value → H) :
    ReturnsInHanded {} Try.checked os 10 .any (Rows.codeTwoSpec.pre6 enc Try.prog Try.f10 Rows.codeTwoRow.domain false) (Rows.codeTwoSpec.post enc Try.prog Try.f10 false true false false) := by
  refine returnsInHanded_of_change_sized (C := Try.checked) Try.own_ started (by kernel_rfl) Try.func10
    (ChangeSpec.witness6 (enc := enc) (C := Try.checked) false ⟨#[], #[.slice none 0 0, .slice none 0 0], []⟩ 8 (by kernel_rfl) (by kernel_rfl) (by kernel_rfl) (by kernel_rfl)) ?_
  intro W base args ds gs before hval hW _ hsz _
  exact contract H enc W base args ds gs before hval hW hsz

theorem holds : Rows.CodeTwoSaid :=
  OpenClaim.holds_of_wide 10 Try.f10 rfl rfl rfl rfl rfl rfl rfl ⟨rfl, rfl, rfl, rfl, rfl⟩ rfl rfl rfl rfl rfl (by kernel_rfl) Try.func10 (by kernel_rfl)
    (of_decide_eq_true (by kernel_rfl)) (by unfold Func.isWrapper; first | (rw [if_pos (by decide +kernel)]; kernel_rfl) | (rw [if_neg (by decide +kernel)]; exact ⟨rfl, rfl⟩))
    (fun os started H enc _ => lifted os started H enc)
end Go.Proofs.Ytbajdehcomheaaa.codeTwo
