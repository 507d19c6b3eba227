/- For every number and all bytes behind its bytes, package code gets the number back, of one to ten bytes: CodeBack answers true. No condition. -/
import Derived.Test.YtbajdehcomheaaaRows
import Derived.Test.YtbajdehcomheaaaLaw
import Derived.Test.YtbajdehcomheaaaCodeFlat
namespace Go.Proofs.Ytbajdehcomheaaa.codeBack
open Go.ChangeShapes Go.WideShapes Go.ChangeAt Go.RowKit Go.ChangeMaps

theorem back_rd {w : World} {A : Option Addr} {m c : Nat} {xs l : List Int} (h : Rd w A m c (List.take xs.length (vals .u8 xs) ++ vals .u8 l)) : Hid (Rd w A m c (vals .u8 (xs ++ l))) := by
  rw [List.take_of_length_le (by simp)] at h
  show Rd _ _ _ _ _
  rw [vals, List.map_append]; exact h
set_option maxHeartbeats 1600000 in
theorem walk (z : Int) (h1 : -9223372036854775808 ≤ z) (h2 : z ≤ 9223372036854775807) (A : Option Addr) (n c : Nat) (l : List Int) (w : World) (hrd : Rd w A n c (vals .u8 l)) (hb : ∀ x ∈ l, 0 ≤ x ∧ x ≤ 255) :
    Calls Try.prog 5 #[.int .i64 z, .slice A n c] w fun e w' => e = .returned (.bool true) ∧ Below w.heap.size w w' := by
  by_cases hn : (1000 : Int) < (n : Int)
  · have hle := hrd.le
    clear hrd
    go_enter Try.func5, Try.ntmps5
    go_wp2_with fail
    refine (alive_any _).mono ?_
    rintro e wz ⟨rfl, bz⟩
    go_wp2
    go_ret
    exact ⟨rfl, bz⟩
  · have hle := hrd.le
    have hgz := getZ_put z ⟨h1, h2⟩ l
    have hpl := putZ_len z
    have hpb := putZ_bytes z ⟨h1, h2⟩
    have HRD := Lib.hid hrd; have HB := Lib.hid hb; have HGZ := Lib.hid hgz; have HPB := Lib.hid hpb; clear hrd hb hgz hpb
    obtain ⟨hp1, hp2⟩ := hpl
    go_enter Try.func5, Try.ntmps5
    go_wp2_with fail
    refine (fresh (put_any z _ h1 h2)).mono ?_
    rintro e w1 ⟨A1, c1, rfl, _, rd1, b1⟩
    have rdb := HRD.out.below b1
    have HF := Lib.hid (rd1.upto (k := (putZ z).length) (m := (putZ z).length) (Nat.le_refl _) (Nat.le_refl _) rd1.cap)
    have hcap := rd1.cap
    have HRB := Lib.hid rdb; clear rdb rd1
    go_wp2_with (first
      | (go_at_call 15; refine (get_some (l := putZ z ++ l) HC.out (fun x hx => (List.mem_append.1 hx).elim (HPB.out x) (HB.out x)) HGZ.out).mono ?_; rintro e w4 ⟨rfl, b4⟩)
      | (go_at_call 11; refine (alive_any _).mono ?_; rintro e w5 ⟨rfl, b5⟩)
      | (at_builtin; refine wpList_full rfl (.tmp 21) (.tmp 22) _ rfl 5 Try.underlying24 _ 1 Try.infoByte rfl (by decide) _ _ _ _ _ _ _ rfl rfl HF.out HRB.out (by omega) ?_; intro A3 c3 w3 rd3 b3; have HC := back_rd rd3; clear rd3))
    go_ret
    exact ⟨ret_bool (decide_eq_true (by omega)), below_then (below_then (below_then b1 b3) b4) b5⟩

theorem contract (H : Type) (enc : TypeId × Value → H) (W : World) (base : Nat) (args : Array Value) (ds gs : List (DataW H)) (before : List MemPlace)
    (hval : ∀ (j : Nat) t v, Try.f5.params[j]? = some t → args[j]? = some v → Value.okWide Try.prog W .any base t v)
    (hW : DataW.Whole enc Try.prog Try.f5.params.toList Rows.codeBackSpec.vars false W args.toList ds gs before) :
    Calls Try.prog 5 args W fun e W' => ∃ v, e = .returned v ∧ Rows.codeBackSpec.post enc Try.prog Try.f5 false true false false W args v W' := by
  have hlt : ∀ x ∈ before, x.block < W.heap.size := fun x hx => by simpa using hW.lt x hx
  refine law_step 4 Try.laid_ (by kernel_rfl) rfl Try.underlying4 rfl hW (fun xs hx => ?_) ?_
  · match xs, hx with
    | [d0, d1], _ => rfl
  · obtain ⟨p, q, hA0, hV, rfl, _, _⟩ := hW
    have hA : DataW.TrodAll enc Try.prog W 0 (fun _ => true) true Try.f5.params.toList args.toList ds p := hA0
    rw [Try.params5] at hA hval
    obtain ⟨v0, vs0, d0, ds0, p0, q0, e0, rfl, rfl, h0, r0⟩ := trodAll_cons hA
    obtain ⟨v1, vs1, d1, ds1, p1, q1, e1, rfl, rfl, h1, r1⟩ := trodAll_cons r0
    obtain ⟨rfl, rfl, rfl⟩ := trodAll_nil r1
    subst e1
    obtain rfl : args = #[v0, v1] := by cases args; simp_all
    clear e0 hA0
    obtain ⟨z, rfl, rfl, rfl, w0⟩ := open_int Try.underlying3 (hval 0 3 v0 rfl rfl) h0
    obtain ⟨lo0, hi0⟩ := wf_i64 w0
    obtain ⟨A1, n1, c1, l, rfl, rd1, wf1⟩ := open_sl (k := .u8) Try.underlying24 Try.underlying5 (by kernel_rfl) (hval 1 24 v1 rfl rfl) h1 (fun x hx => hlt x (by simp [hx]))
    exact walk z lo0 hi0 A1 n1 c1 l W rd1 (fun x hx => wf_u8 (wf1 x hx))

set_option maxRecDepth 100000 in
theorem lifted (os : Os) (started : os.Started) (H : Type) (enc : TypeId × Value → H) :
    ReturnsInHanded {} Try.checked os 5 .any (Rows.codeBackSpec.pre6 enc Try.prog Try.f5 Rows.codeBackRow.domain false) (Rows.codeBackSpec.post enc Try.prog Try.f5 false true false false) := by
  refine returnsInHanded_of_change (C := Try.checked) Try.own_ started (by kernel_rfl) Try.func5
    (ChangeSpec.witness6 (enc := enc) (C := Try.checked) false ⟨#[], #[.int .i64 0, .slice none 0 0], []⟩ 8 (by kernel_rfl) (by kernel_rfl) (by kernel_rfl) (by kernel_rfl)) ?_
  intro W base args ds gs before hval hW _ _
  exact contract H enc W base args ds gs before hval hW

theorem holds : Rows.CodeBackSaid :=
  OpenClaim.holds_of_wide 5 Try.f5 rfl rfl rfl rfl rfl rfl rfl ⟨rfl, rfl, rfl, rfl, rfl⟩ rfl rfl rfl rfl rfl (by kernel_rfl) Try.func5 (by kernel_rfl)
    (of_decide_eq_true (by kernel_rfl)) (by unfold Func.isWrapper; first | (rw [if_pos (by decide +kernel)]; kernel_rfl) | (rw [if_neg (by decide +kernel)]; exact ⟨rfl, rfl⟩))
    (fun os started H enc _ => lifted os started H enc)
end Go.Proofs.Ytbajdehcomheaaa.codeBack
