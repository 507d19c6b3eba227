/- Layer 3: which rows may stand in which columns, how two rows stand to one another: the code and the document's answer. -/
import Derived.Test.YtijhcoidhlmecaaRowMem
import Derived.Test.YtijhcoidhlmecaaValPlain
import Derived.Test.YtijhcoidhlmecaaValEq
namespace Go.Proofs.Ytijhcoidhlmecaa
set_option maxRecDepth 100000
open Go.RowKit

abbrev V3.right (v : V3) : Bool := rightZ v.k v.n v.s.size

set_option maxHeartbeats 800000 in
theorem refAll_any (A : Option Addr) (n c : Nat) (l : List V3) (w : World) (hrd : RdV w A n c l) (hs : ∀ x ∈ l, x.s.size ≤ 4294967296) :
    Calls Try.prog 16 #[.slice A n c] w fun e w' => e = .returned (.bool (l.all V3.right)) ∧ Below w.heap.size w w' := by
  have hll := hrd.len
  have hle := hrd.le
  have HRD := Lib.hid hrd; have HLL := Lib.hid hll; have HS := Lib.hid hs
  clear hrd hll hs
  go_enter Try.func16, Try.ntmps16
  go_wp2_with fail
  go_loopw [3] (fun i wr => ∃ k : Nat, k ≤ n ∧ i = .int .i64 k ∧ Hid ((l.take k).all V3.right = true) ∧ Below w.heap.size w wr) (fun i _ => n - (intOf i).toNat)
  case atStart => exact ⟨0, Nat.zero_le _, rfl, by show _ = _; simp, Below.refl _ _⟩
  case round =>
    obtain ⟨k, hk, rfl, hall, hbel⟩ := hrel
    by_cases hlt : k < n
    · obtain ⟨b, o, x, rfl, hb, hx, hld⟩ := HRD.out.val hlt
      obtain ⟨c0, c1, c2⟩ := hld _ hbel
      have hxs := HS.out x (List.mem_of_getElem? hx)
      have hnext : Hid ((l.take (k + 1)).all V3.right = x.right) := by
        show _ = _
        rw [List.take_add_one, hx, List.all_append, hall.out]; simp
      obtain ⟨r, hr, P⟩ : ∃ r, Hid (x.right = r) ∧ Hid (∀ W, Calls Try.prog 29 #[.agg #[.int .i64 x.k, .int .i64 x.n, .string x.s]] W fun e W' => e = .returned (.bool r) ∧ Below W.heap.size W W') :=
        ⟨_, Lib.hid rfl, Lib.hid fun W => refRight_any _ _ _ W hxs⟩
      have hlk := Lib.hid hx
      clear hx hld
      go_wp2_with fail
      refine (P.out _).mono ?_
      rintro e w2 ⟨rfl, b2⟩
      have hb2 := below_then hbel b2
      cases r with
      | true =>
        go_wp2
        refine ⟨⟨k + 1, by omega, by go_num, by show _ = _; rw [hnext.out, hr.out], hb2⟩, by simp [intOf]; omega⟩
      | false =>
        go_wp2
        go_ret
        refine ⟨ret_bool ?_, hb2⟩
        symm
        rw [List.all_eq_false]
        exact ⟨x, List.mem_of_getElem? hlk.out, by rw [hr.out]; simp⟩
    · go_wp2
      go_ret
      refine ⟨ret_bool ?_, hbel⟩
      have h := hall.out
      rw [List.take_of_length_le (by rw [HLL.out]; omega)] at h
      exact h.symm
/-- the kind of a column's values -/
def kindZ (c : C4) : Int := if c.k = 0 ∨ c.k = 1 then c.t else if c.k = 2 ∨ c.k = 3 then 1 else if c.k = 4 then 2 else 0

abbrev colCells (c : C4) : Obj := .cells #[.string c.nm, .int .i64 c.k, .int .i64 c.t, .bool c.z] 28

set_option maxHeartbeats 800000 in
theorem kind_any (c : C4) (w : World) :
    Calls Try.prog 12 #[c.agg] w fun e w' => e = .returned (.int .i64 (kindZ c)) ∧ Below w.heap.size w w' := by
  obtain ⟨nm, k, t, z⟩ := c
  rcases Decidable.em (k = 0) with rfl | h0
  rotate_left
  rcases Decidable.em (k = 1) with rfl | h1
  rotate_left
  rcases Decidable.em (k = 2) with rfl | h2
  rotate_left
  rcases Decidable.em (k = 3) with rfl | h3
  rotate_left
  rcases Decidable.em (k = 4) with rfl | h4
  rotate_left
  all_goals
    go_enter Try.func12, Try.ntmps12
    go_wp2
  all_goals go_ret
  all_goals refine ⟨?_, by first | exact (Below.refl _ _).alloc (Nat.le_refl _) _⟩
  all_goals simp_all [kindZ]

set_option maxHeartbeats 800000 in
theorem refKind_any (c : C4) (w : World) :
    Calls Try.prog 13 #[c.agg] w fun e w' => e = .returned (.int .i64 (kindZ c)) ∧ Below w.heap.size w w' := by
  obtain ⟨nm, k, t, z⟩ := c
  rcases Decidable.em (k = 0) with rfl | h0
  rotate_left
  rcases Decidable.em (k = 1) with rfl | h1
  rotate_left
  rcases Decidable.em (k = 2) with rfl | h2
  rotate_left
  rcases Decidable.em (k = 3) with rfl | h3
  rotate_left
  rcases Decidable.em (k = 4) with rfl | h4
  rotate_left
  all_goals
    go_enter Try.func13, Try.ntmps13
    go_wp2
  all_goals go_ret
  all_goals refine ⟨?_, by first | exact (Below.refl _ _).alloc (Nat.le_refl _) _⟩
  all_goals simp_all [kindZ]

/-- may a column not be nothing -/
def mustZ (c : C4) : Bool := !c.z && (decide (c.k = 0) || decide (c.k = 1))

set_option maxHeartbeats 800000 in
theorem must_any (c : C4) (w : World) :
    Calls Try.prog 44 #[c.agg] w fun e w' => e = .returned (.bool (mustZ c)) ∧ Below w.heap.size w w' := by
  obtain ⟨nm, k, t, z⟩ := c
  cases z
  all_goals rcases (show k = 0 ∨ k = 1 ∨ (¬ k = 0 ∧ ¬ k = 1) by omega) with rfl | rfl | ⟨h0, h1⟩
  all_goals
    go_enter Try.func44, Try.ntmps44
    go_wp2
  all_goals go_ret
  all_goals refine ⟨?_, by first | exact (Below.refl _ _).alloc (Nat.le_refl _) _⟩
  all_goals simp_all [mustZ]

/-- the error of a value in a column -/
def fitZ (c : C4) (v : V3) : Int := if v.right = true then (if v.k = 0 then (if mustZ c = true then 7 else 0) else if v.k = kindZ c then 0 else 6) else 1
theorem ret_i64 {a b : Int} (h : a = b) : Ending.returned (.int .i64 a) = .returned (.int .i64 b) := by rw [h]

set_option maxHeartbeats 1600000 in
theorem fits_any (c : C4) (v : V3) (w : World) (hs : v.s.size ≤ 4294967296) :
    Calls Try.prog 28 #[c.agg, v.agg] w fun e w' => e = .returned (.int .i64 (fitZ c v)) ∧ Below w.heap.size w w' := by
  obtain ⟨r, hr, PR⟩ : ∃ r, Hid (v.right = r) ∧ Hid (∀ W, Calls Try.prog 43 #[.agg #[.int .i64 v.k, .int .i64 v.n, .string v.s]] W fun e W' => e = .returned (.bool r) ∧ Below W.heap.size W W') :=
    ⟨_, Lib.hid rfl, Lib.hid fun W => right_any _ _ _ W hs⟩
  obtain ⟨m, hm, PM⟩ : ∃ m, Hid (mustZ c = m) ∧ Hid (∀ W, Calls Try.prog 44 #[.agg #[.string c.nm, .int .i64 c.k, .int .i64 c.t, .bool c.z]] W fun e W' => e = .returned (.bool m) ∧ Below W.heap.size W W') :=
    ⟨_, Lib.hid rfl, Lib.hid fun W => must_any c W⟩
  obtain ⟨d, hd, PK⟩ : ∃ d, Hid (kindZ c = d) ∧ Hid (∀ W, Calls Try.prog 12 #[.agg #[.string c.nm, .int .i64 c.k, .int .i64 c.t, .bool c.z]] W fun e W' => e = .returned (.int .i64 d) ∧ Below W.heap.size W W') :=
    ⟨_, Lib.hid rfl, Lib.hid fun W => kind_any c W⟩
  have HF : Hid (fitZ c v = if r = true then (if v.k = 0 then (if m = true then 7 else 0) else if v.k = d then 0 else 6) else 1) := by show _ = _; rw [fitZ, hr.out, hm.out, hd.out]
  clear hr hm hd hs
  obtain ⟨ck, cn, cs⟩ := v
  obtain ⟨nm, k, t, z⟩ := c
  generalize hO : fitZ ⟨nm, k, t, z⟩ ⟨ck, cn, cs⟩ = out at HF
  clear hO
  simp only [] at HF PR PM PK
  have B0 := below_new (below_new (Below.refl w.heap.size w) (.cells #[.string nm, .int .i64 k, .int .i64 t, .bool z] 28)) (.cells #[.int .i64 ck, .int .i64 cn, .string cs] 44)
  have r1 := heap_alloc_new (w.alloc (.cells #[.string nm, .int .i64 k, .int .i64 t, .bool z] 28)) (.cells #[.int .i64 ck, .int .i64 cn, .string cs] 44)
  rw [World.size_alloc] at r1
  have r0 := row_below (heap_alloc_new w (.cells #[.string nm, .int .i64 k, .int .i64 t, .bool z] 28)) (below_new (Below.refl _ _) (.cells #[.int .i64 ck, .int .i64 cn, .string cs] 44))
  have R0 := Lib.hid r0; have R1 := Lib.hid r1
  clear r0 r1
  go_enter Try.func28, Try.ntmps28
  go_wp2_with fail
  refine (PR.out _).mono ?_
  rintro e w2 ⟨rfl, b2⟩
  have B2 := below_then B0 b2
  have R02 := Lib.hid (row_below R0.out b2); have R12 := Lib.hid (row_below R1.out b2)
  have x0 := cell_row R12.out 0; have y0 := cell_row R02.out 0; have y1 := cell_row R02.out 1; have y2 := cell_row R02.out 2; have y3 := cell_row R02.out 3
  simp only [List.getElem?_toArray, List.getElem?_cons_zero, List.getElem?_cons_succ] at x0 y0 y1 y2 y3
  clear R0 R1 PR
  cases r with
  | false =>
    go_wp2
    go_ret
    exact ⟨ret_i64 (by rw [HF.out]; rfl), B2⟩
  | true =>
    rcases Decidable.em (ck = 0) with rfl | hk0
    · go_wp2_with fail
      refine (PM.out _).mono ?_
      rintro e w3 ⟨rfl, b3⟩
      have B3 := below_then B2 b3
      cases m with
      | true =>
        go_wp2
        go_ret
        exact ⟨ret_i64 (by rw [HF.out]; rfl), B3⟩
      | false =>
        go_wp2
        go_ret
        exact ⟨ret_i64 (by rw [HF.out]; rfl), B3⟩
    · have R2d := Lib.hid (row_drew R12.out)
      have hcond : Hid (fitZ ⟨nm, k, t, z⟩ ⟨ck, cn, cs⟩ = fitZ ⟨nm, k, t, z⟩ ⟨ck, cn, cs⟩) := rfl
      clear hcond
      rcases Decidable.em (ck = d) with rfl | hkd
      all_goals
        go_wp2_with fail
        go_region_with (first
          | (go_at_call 12; refine (PK.out _).mono ?_; rintro e w3 ⟨rfl, b3⟩; have x0 := (cell_row (row_below R2d.out b3) 0); simp only [List.getElem?_toArray, List.getElem?_cons_zero] at x0))
      all_goals have B3 := below_then B2.drew b3
      all_goals go_wp2
      all_goals go_ret
      all_goals refine ⟨ret_i64 ?_, B3⟩
      all_goals rw [HF.out]
      all_goals simp_all
end Go.Proofs.Ytijhcoidhlmecaa
