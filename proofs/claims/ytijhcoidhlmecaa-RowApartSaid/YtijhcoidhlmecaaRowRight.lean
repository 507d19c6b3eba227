/- Layer 3: which rows may stand in which columns: the code and the document's answer. -/
import Derived.Test.YtijhcoidhlmecaaRowPlain
namespace Go.Proofs.Ytijhcoidhlmecaa
set_option maxRecDepth 100000
open Go.RowKit

/-- the first error of a row's values -/
def errZ : List C4 → List V3 → Int
  | c :: cs, v :: vs => if fitZ c v = 0 then errZ cs vs else fitZ c v
  | _, _ => 0
def rowErr (cs : List C4) (vs : List V3) : Int := if cs.length = vs.length then errZ cs vs else 1

theorem drop_at {α : Type} {l : List α} {k : Nat} {x : α} (h : l[k]? = some x) : l.drop k = x :: l.drop (k + 1) := by
  obtain ⟨hk, rfl⟩ := List.getElem?_eq_some_iff.1 h
  exact List.drop_eq_getElem_cons hk

set_option maxHeartbeats 1600000 in
theorem rowRight_any (A B : Option Addr) (n c m d : Nat) (cs : List C4) (vs : List V3) (w : World) (hc : RdC w A n c cs) (hv : RdV w B m d vs) (hs : ∀ x ∈ vs, x.s.size ≤ 4294967296) :
    Calls Try.prog 14 #[.slice A n c, .slice B m d] w fun e w' => e = .returned (.int .i64 (rowErr cs vs)) ∧ Below w.heap.size w w' := by
  have hlc := hc.len; have hlv := hv.len; have hle := hc.le; have hle2 := hv.le
  rcases Decidable.em (m = n) with rfl | hmn
  rotate_left
  · have hr := Lib.hid (show rowErr cs vs = 1 by rw [rowErr, if_neg (by omega)])
    have hmi : ¬ ((m : Nat) : Int) = n := by omega
    clear hc hv hs hlc hlv
    go_enter Try.func14, Try.ntmps14
    go_wp2
    go_ret
    exact ⟨ret_i64 hr.out.symm, Below.refl _ _⟩
  have HR := Lib.hid (show rowErr cs vs = errZ cs vs by rw [rowErr, if_pos (by omega)])
  have HC := Lib.hid hc; have HV := Lib.hid hv; have HS := Lib.hid hs; have HLC := Lib.hid hlc; have HLV := Lib.hid hlv
  clear hc hv hs hlc hlv
  go_enter Try.func14, Try.ntmps14
  go_wp2_with fail
  go_loopw [15] (fun i wr => ∃ k : Nat, k ≤ m ∧ i = .int .i64 k ∧ Hid (errZ cs vs = errZ (cs.drop k) (vs.drop k)) ∧ Below w.heap.size w wr) (fun i _ => m - (intOf i).toNat)
  case atStart => exact ⟨0, Nat.zero_le _, rfl, by show _ = _; simp, Below.refl _ _⟩
  case round =>
    obtain ⟨k, hk, rfl, hall, hbel⟩ := hrel
    by_cases hlt : k < m
    · obtain ⟨b, o, x, rfl, hb, hx, hld⟩ := HC.out.col hlt
      obtain ⟨b', o', y, rfl, hb', hy, hld'⟩ := HV.out.val hlt
      obtain ⟨c0, c1, c2, c3⟩ := hld _ hbel
      have hys := HS.out y (List.mem_of_getElem? hy)
      have hnext : Hid (errZ cs vs = if fitZ x y = 0 then errZ (cs.drop (k + 1)) (vs.drop (k + 1)) else fitZ x y) := by
        show _ = _
        rw [hall.out, drop_at hx, drop_at hy, errZ]
      obtain ⟨r, hr, P⟩ : ∃ r, Hid (fitZ x y = r) ∧ Hid (∀ W, Calls Try.prog 28 #[x.agg, y.agg] W fun e W' => e = .returned (.int .i64 r) ∧ Below W.heap.size W W') :=
        ⟨_, Lib.hid rfl, Lib.hid fun W => fits_any _ _ W hys⟩
      have B1 := below_new hbel (.cells #[.string x.nm, .int .i64 x.k, .int .i64 x.t, .bool x.z] 28)
      obtain ⟨d0, d1, d2⟩ := hld' _ B1
      clear hx hy hld hld' hall
      go_wp2_with fail
      go_region_with (first
        | (go_at_call 28; refine (P.out _).mono ?_; rintro e w2 ⟨rfl, b2⟩))
      all_goals
        have B2 := below_then B1.drew b2
        clear c0 c1 c2 c3 d0 d1 d2 B1
        rcases Decidable.em (r = 0) with rfl | hr0
        · go_wp2
          refine ⟨⟨k + 1, by omega, by go_num, by show _ = _; rw [hnext.out, hr.out, if_pos rfl], B2⟩, by simp [intOf]; omega⟩
        · go_wp2
          go_ret
          exact ⟨ret_i64 (by rw [HR.out, hnext.out, hr.out, if_neg hr0]), B2⟩
    · go_wp2
      go_ret
      refine ⟨ret_i64 ?_, hbel⟩
      have h := hall.out
      rw [HR.out, h, List.drop_of_length_le (by rw [HLC.out]; omega)]
      rfl

set_option maxHeartbeats 1600000 in
theorem refRowRight_any (A B : Option Addr) (n c m d : Nat) (cs : List C4) (vs : List V3) (w : World) (hc : RdC w A n c cs) (hv : RdV w B m d vs) (hs : ∀ x ∈ vs, x.s.size ≤ 4294967296) :
    Calls Try.prog 15 #[.slice A n c, .slice B m d] w fun e w' => e = .returned (.int .i64 (rowErr cs vs)) ∧ Below w.heap.size w w' := by
  have hlc := hc.len; have hlv := hv.len; have hle := hc.le; have hle2 := hv.le
  rcases Decidable.em (m = n) with rfl | hmn
  rotate_left
  · have hr := Lib.hid (show rowErr cs vs = 1 by rw [rowErr, if_neg (by omega)])
    have hmi : ¬ ((n : Nat) : Int) = m := by omega
    clear hc hv hs hlc hlv
    go_enter Try.func15, Try.ntmps15
    go_wp2
    go_ret
    exact ⟨ret_i64 hr.out.symm, Below.refl _ _⟩
  have HR := Lib.hid (show rowErr cs vs = errZ cs vs by rw [rowErr, if_pos (by omega)])
  have HC := Lib.hid hc; have HV := Lib.hid hv; have HS := Lib.hid hs; have HLC := Lib.hid hlc; have HLV := Lib.hid hlv
  clear hc hv hs hlc hlv
  go_enter Try.func15, Try.ntmps15
  go_wp2_with fail
  go_loopw [5] (fun i wr => ∃ k : Nat, k ≤ m ∧ i = .int .i64 k ∧ Hid (errZ cs vs = errZ (cs.drop k) (vs.drop k)) ∧ Below w.heap.size w wr) (fun i _ => m - (intOf i).toNat)
  case atStart => exact ⟨0, Nat.zero_le _, rfl, by show _ = _; simp, Below.refl _ _⟩
  case round =>
    obtain ⟨k, hk, rfl, hall, hbel⟩ := hrel
    by_cases hlt : k < m
    · obtain ⟨b, o, x, rfl, hb, hx, hld⟩ := HC.out.col hlt
      obtain ⟨b', o', y, rfl, hb', hy, hld'⟩ := HV.out.val hlt
      have hys := HS.out y (List.mem_of_getElem? hy)
      have hnext : Hid (errZ cs vs = if fitZ x y = 0 then errZ (cs.drop (k + 1)) (vs.drop (k + 1)) else fitZ x y) := by
        show _ = _
        rw [hall.out, drop_at hx, drop_at hy, errZ]
      obtain ⟨r, hr, PR⟩ : ∃ r, Hid (y.right = r) ∧ Hid (∀ W, Calls Try.prog 29 #[.agg #[.int .i64 y.k, .int .i64 y.n, .string y.s]] W fun e W' => e = .returned (.bool r) ∧ Below W.heap.size W W') :=
        ⟨_, Lib.hid rfl, Lib.hid fun W => refRight_any _ _ _ W hys⟩
      obtain ⟨kd, hkd, PK⟩ : ∃ d, Hid (kindZ x = d) ∧ Hid (∀ W, Calls Try.prog 13 #[.agg #[.string x.nm, .int .i64 x.k, .int .i64 x.t, .bool x.z]] W fun e W' => e = .returned (.int .i64 d) ∧ Below W.heap.size W W') :=
        ⟨_, Lib.hid rfl, Lib.hid fun W => refKind_any x W⟩
      have HF : Hid (fitZ x y = if r = true then (if y.k = 0 then (if mustZ x = true then 7 else 0) else if y.k = kd then 0 else 6) else 1) := by show _ = _; rw [fitZ, hr.out, hkd.out]
      have LX := Lib.hid hld; have LY := Lib.hid hld'
      obtain ⟨d0, d1, d2⟩ := hld' _ hbel
      clear hx hy hld hld' hall hr hkd
      go_wp2_with fail
      refine (PR.out _).mono ?_
      rintro e w2 ⟨rfl, b2⟩
      have B2 := below_then hbel b2
      clear d0 d1 d2
      obtain ⟨d0, -, -⟩ := LY.out _ B2
      cases r with
      | false =>
        go_wp2
        go_ret
        exact ⟨ret_i64 (by rw [HR.out, hnext.out, HF.out]; rfl), B2⟩
      | true =>
        obtain ⟨yk, yn, ys⟩ := y
        simp only [] at d0
        rcases Decidable.em (yk = 0) with rfl | hk0
        · obtain ⟨-, c1, -, c3⟩ := LX.out _ B2
          obtain ⟨xm, xk, xt, xz⟩ := x
          simp only [] at c1 c3
          have hm : Hid (fitZ ⟨xm, xk, xt, xz⟩ ⟨0, yn, ys⟩ = if (!xz && (decide (xk = 0) || decide (xk = 1))) = true then 7 else 0) := HF
          rcases (show xk = 0 ∨ xk = 1 ∨ xk < 0 ∨ 1 < xk by omega) with rfl | rfl | hx0 | hx0
          all_goals cases xz
          all_goals go_wp2
          all_goals try first
            | (go_ret; exact ⟨ret_i64 (by rw [HR.out, hnext.out, hm.out]; rfl), B2⟩)
            | (refine ⟨⟨k + 1, by omega, by go_num, ?_, B2⟩, by simp [intOf]; omega⟩; show _ = _; rw [hnext.out, hm.out]; simp <;> omega)
        · obtain ⟨c0, c1, c2, c3⟩ := LX.out _ B2.drew
          have e0 := d0
          rcases Decidable.em (yk = kd) with rfl | hne
          all_goals
            go_wp2_with fail
            go_region_with (first
              | (go_at_call 13; refine (PK.out _).mono ?_; rintro e w3 ⟨rfl, b3⟩; obtain ⟨d0, -, -⟩ := LY.out _ (below_then B2.drew b3)))
          all_goals have B3 := below_then B2.drew b3
          all_goals go_wp2
          all_goals try first
            | (go_ret; exact ⟨ret_i64 (by rw [HR.out, hnext.out, HF.out]; simp [*]), B3⟩)
            | (refine ⟨⟨k + 1, by omega, by go_num, ?_, B3⟩, by simp [intOf]; omega⟩; show _ = _; rw [hnext.out, HF.out]; simp [*])
    · go_wp2
      go_ret
      refine ⟨ret_i64 ?_, hbel⟩
      have h := hall.out
      rw [HR.out, h, List.drop_of_length_le (by rw [HLC.out]; omega)]
      rfl
end Go.Proofs.Ytijhcoidhlmecaa
