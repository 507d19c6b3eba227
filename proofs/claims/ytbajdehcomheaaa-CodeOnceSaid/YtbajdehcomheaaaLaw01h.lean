/- Of all bytes, what package code gets as a number are the bytes that it lays of it, and it gets nothing of a beginning of them that is shorter: CodeOnce answers true. No condition. -/
import Derived.Test.YtbajdehcomheaaaRows
import Derived.Test.YtbajdehcomheaaaLaw
import Derived.Test.YtbajdehcomheaaaCodeMath2
import Derived.Deep.RegionHeld3
namespace Go.Proofs.Ytbajdehcomheaaa.codeOnce
open Go.ChangeShapes Go.WideShapes Go.ChangeAt Go.RowKit Go.ChangeMaps

set_option maxHeartbeats 3200000 in
theorem walk (A : Option Addr) (n c : Nat) (l : List Int) (w : World) (hrd : Rd w A n c (vals .u8 l)) (hb : ∀ x ∈ l, 0 ≤ x ∧ x ≤ 255) :
    Calls Try.prog 6 #[.slice A n c] w fun e w' => e = .returned (.bool true) ∧ Below w.heap.size w w' := by
  have hle := hrd.le
  by_cases hn : (1000 : Int) < (n : Int)
  · clear hrd
    go_enter Try.func6, Try.ntmps6
    go_wp2_with fail
    refine (alive_any _).mono ?_
    rintro e wz ⟨rfl, bz⟩
    go_wp2
    go_ret
    exact ⟨rfl, bz⟩
  cases hg : getZ l with
  | none =>
    have HRD := Lib.hid hrd; have HB := Lib.hid hb; have HG := Lib.hid hg; clear hrd hb hg
    go_enter Try.func6, Try.ntmps6
    go_wp2_with fail
    refine (get_none HRD.out HB.out HG.out).mono ?_
    rintro e w1 ⟨rfl, b1⟩
    go_wp2_with fail
    refine (alive_any _).mono ?_
    rintro e w2 ⟨rfl, b2⟩
    go_wp2
    go_ret
    exact ⟨rfl, below_then b1 b2⟩
  | some p =>
    obtain ⟨z, k⟩ := p
    have hgs := getZ_some hb hg
    have hz1 := hgs.1.1
    have hz2 := hgs.1.2
    have htk := hgs.2.1
    have hk0 := hgs.2.2.2.1
    have hkl := hgs.2.2.2.2
    have hlen : l.length = n := by simpa using hrd.len
    rw [hlen] at hkl
    have hcap := hrd.cap
    obtain ⟨b, o, _, rfl, _, _, _⟩ := hrd.at_ (show 0 < n by omega)
    have hkc1 : ((k : Nat) : Int) ≤ (c : Int) := by omega
    have hkn1 : ((k : Nat) : Int) ≤ (n : Int) := by omega
    have hd1 : decide ((k : Int) < 1) = false := by simp; omega
    have hd3 : decide (k < 1) = false := by simp; omega
    have hd4 : decide (k = 0) = false := by simp; omega
    have hd5 : ¬ k = 0 := by omega
    have hd6 : decide (n < k) = false := by simp; omega
    have hd2 : decide ((n : Int) < (k : Int)) = false := by simp; omega
    have hc0 : ¬ c = 0 := by omega
    have hup : ∀ j, j ≤ k → Rd w (some ⟨b, o, none⟩) j c (vals .u8 (l.take j)) := fun j hj => by
      have h := hrd.upto (k := j) (m := c) (by omega) (by omega) (Nat.le_refl _)
      rw [vals, List.map_take]; exact h
    have hsh : ∀ j, j < k → getZ (l.take j) = none := fun j hj => getZ_short hb hg hj
    have put : ∀ W, Calls Try.prog 13 #[.int .i64 z] W fun e w' => ∃ A c, e = .returned (.slice A k c) ∧ Rd w' A k c (vals .u8 (l.take k)) ∧ Below W.heap.size W w' := fun W => by
      have h := fresh_len (fresh (put_any z W hz1 hz2)) hgs.2.2.1.symm
      rwa [← htk] at h
    have HRD := Lib.hid hrd; have HB := Lib.hid hb; have HG := Lib.hid hg; have HUP := Lib.hid hup; have HSH := Lib.hid hsh; have PUT := Lib.hid put
    clear hrd hb hg hgs htk hlen hup hsh put
    go_enter Try.func6, Try.ntmps6
    go_wp2_with fail
    refine (get_some HRD.out HB.out HG.out).mono ?_
    rintro e w1 ⟨rfl, b1⟩
    go_wp2_with fail
    go_region_held3 (fun _ => True) (trivial) (first
      | (go_at_call 13; refine (PUT.out _).mono ?_; rintro e w2 ⟨A2, c2, rfl, rd2, b2⟩)
      | (go_at_call 12; refine (same_is (l.take k) (l.take k) rd2 ((((HUP.out k (Nat.le_refl _)).below b1).drew).below b2) (r := true) (by simp)).mono ?_; rintro e w3 ⟨rfl, q3⟩))
    all_goals
      have b3 : Below w.heap.size w w3 := below_quiet ((b1.drew).trans (b2.mono b1.size)) q3
      go_wp2
      go_loopw [49] (fun i wr => ∃ j : Nat, j ≤ k ∧ i = .int .i64 j ∧ Below w.heap.size w wr) (fun i _ => k - (intOf i).toNat)
      case atStart => exact ⟨0, Nat.zero_le _, rfl, b3⟩
      case round =>
        obtain ⟨j, hj, rfl, hbel⟩ := hrel
        by_cases hjk : j < k
        · have hjc : ((j : Nat) : Int) ≤ (c : Int) := by omega
          have HN := Lib.hid (HSH.out j hjk)
          have HR := Lib.hid ((HUP.out j hj).below hbel)
          go_wp2_with (go_at_call 15; refine (get_none HR.out (fun x hx => HB.out x (List.mem_of_mem_take hx)) HN.out).mono ?_; rintro e w5 ⟨rfl, b5⟩)
          exact ⟨⟨j + 1, by omega, by go_num, below_then hbel b5⟩, by simp [intOf]; omega⟩
        · go_wp2_with (go_at_call 11; refine (alive_any _).mono ?_; rintro e w5 ⟨rfl, b5⟩)
          go_ret
          exact ⟨rfl, below_then hbel b5⟩

theorem contract (H : Type) (enc : TypeId × Value → H) (W : World) (base : Nat) (args : Array Value) (ds gs : List (DataW H)) (before : List MemPlace)
    (hval : ∀ (j : Nat) t v, Try.f6.params[j]? = some t → args[j]? = some v → Value.okWide Try.prog W .any base t v)
    (hW : DataW.Whole enc Try.prog Try.f6.params.toList Rows.codeOnceSpec.vars false W args.toList ds gs before) :
    Calls Try.prog 6 args W fun e W' => ∃ v, e = .returned v ∧ Rows.codeOnceSpec.post enc Try.prog Try.f6 false true false false W args v W' := by
  have hlt : ∀ x ∈ before, x.block < W.heap.size := fun x hx => by simpa using hW.lt x hx
  refine law_step 4 Try.laid_ (by kernel_rfl) rfl Try.underlying4 rfl hW (fun xs hx => ?_) ?_
  · match xs, hx with
    | [d0], _ => rfl
  · obtain ⟨p, q, hA0, hV, rfl, _, _⟩ := hW
    have hA : DataW.TrodAll enc Try.prog W 0 (fun _ => true) true Try.f6.params.toList args.toList ds p := hA0
    rw [Try.params6] at hA hval
    obtain ⟨v0, vs0, d0, ds0, p0, q0, e0, rfl, rfl, h0, r0⟩ := trodAll_cons hA
    obtain ⟨rfl, rfl, rfl⟩ := trodAll_nil r0
    obtain rfl : args = #[v0] := by cases args; simp_all
    clear e0 hA0
    obtain ⟨A0, n0, c0, l, rfl, rd0, wf0⟩ := open_sl (k := .u8) Try.underlying24 Try.underlying5 (by kernel_rfl) (hval 0 24 v0 rfl rfl) h0 (fun x hx => hlt x (by simp [hx]))
    exact walk A0 n0 c0 l W rd0 (fun x hx => wf_u8 (wf0 x hx))

set_option maxRecDepth 100000 in
theorem lifted (os : Os) (started : os.Started) (H : Type) (enc : TypeId × Value → H) :
    ReturnsInHanded {} Try.checked os 6 .any (Rows.codeOnceSpec.pre6 enc Try.prog Try.f6 Rows.codeOnceRow.domain false) (Rows.codeOnceSpec.post enc Try.prog Try.f6 false true false false) := by
  refine returnsInHanded_of_change (C := Try.checked) Try.own_ started (by kernel_rfl) Try.func6
    (ChangeSpec.witness6 (enc := enc) (C := Try.checked) false ⟨#[], #[.slice none 0 0], []⟩ 8 (by kernel_rfl) (by kernel_rfl) (by kernel_rfl) (by kernel_rfl)) ?_
  intro W base args ds gs before hval hW _ _
  exact contract H enc W base args ds gs before hval hW

theorem holds : Rows.CodeOnceSaid :=
  OpenClaim.holds_of_wide 6 Try.f6 rfl rfl rfl rfl rfl rfl rfl ⟨rfl, rfl, rfl, rfl, rfl⟩ rfl rfl rfl rfl rfl (by kernel_rfl) Try.func6 (by kernel_rfl)
    (of_decide_eq_true (by kernel_rfl)) (by unfold Func.isWrapper; first | (rw [if_pos (by decide +kernel)]; kernel_rfl) | (rw [if_neg (by decide +kernel)]; exact ⟨rfl, rfl⟩))
    (fun os started H enc _ => lifted os started H enc)
end Go.Proofs.Ytbajdehcomheaaa.codeOnce
