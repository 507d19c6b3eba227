/- Layer 12: an expression's depth: the document. -/
import Derived.Test.YtkpkkkmokgmhfaaExpFits
namespace Go.Proofs.Ytkpkkkmokgmhfaa
set_option maxRecDepth 100000
open Go.RowKit Go.MapKept

/-- an expression's depth, looked at so far -/
def depthN : Nat → E6 → Int
  | 0, _ => 1
  | d + 1, e => (e.of.map fun x => 1 + depthN d x).foldl max 1
theorem foldl_max (l : List Int) : ∀ (a m : Int), l.foldl max a ≤ m ↔ a ≤ m ∧ ∀ x ∈ l, x ≤ m := by
  induction l with
  | nil => intro a m; simp
  | cons y r ih =>
    intro a m
    rw [List.foldl_cons, ih]
    simp only [List.mem_cons, forall_eq_or_imp]
    constructor
    · rintro ⟨h1, h2⟩; exact ⟨by omega, by omega, h2⟩
    · rintro ⟨h1, h2, h3⟩; exact ⟨by omega, h3⟩
theorem depth_rng : ∀ (d : Nat) (e : E6), 1 ≤ depthN d e ∧ depthN d e ≤ d + 1
  | 0, _ => ⟨Int.le_refl _, by simp [depthN]⟩
  | d + 1, e => by
    constructor
    · rw [depthN]
      by_cases h : 1 ≤ ((e.of.map fun x => 1 + depthN d x).foldl max 1)
      · exact h
      · have := ((foldl_max _ 1 _).1 (Int.le_of_lt_add_one (show ((e.of.map fun x => 1 + depthN d x).foldl max 1) < 0 + 1 by omega))).1
        omega
    · rw [depthN, foldl_max]
      refine ⟨by omega, fun x hx => ?_⟩
      obtain ⟨y, _, rfl⟩ := List.mem_map.1 hx
      have := (depth_rng d y).2
      omega
theorem depth_within : ∀ (d : Nat) (e : E6), withinB d e = true ↔ depthN d e ≤ d
  | 0, _ => by simp [withinB, depthN]
  | d + 1, e => by
    rw [withinB, depthN, List.all_eq_true, foldl_max]
    constructor
    · intro h
      refine ⟨by omega, fun x hx => ?_⟩
      obtain ⟨y, hy, rfl⟩ := List.mem_map.1 hx
      have := (depth_within d y).1 (h y hy)
      omega
    · rintro ⟨_, h⟩ y hy
      have := h _ (List.mem_map.2 ⟨y, hy, rfl⟩)
      exact (depth_within d y).2 (by omega)
theorem fold_next {d : Nat} {l : List E6} {k : Nat} {x : E6} (hx : l[k]? = some x) : ((l.take (k + 1)).map fun x => 1 + depthN d x).foldl max 1 = max (((l.take k).map fun x => 1 + depthN d x).foldl max 1) (1 + depthN d x) := by
  rw [List.take_add_one, hx, List.map_append, List.foldl_append]; rfl

set_option maxHeartbeats 12800000 in
theorem refDepth_any : ∀ (d : Nat) (e : E6) (w : World), d ≤ 1000 → ReadsE w e → Calls Try.prog 60 #[e.agg, .int .i64 (d : Int)] w fun r w' => r = .returned (.int .i64 (depthN d e)) ∧ Below w.heap.size w w'
  | 0, e, w, _, h => by
    have hle := h.le
    obtain ⟨w1, hw1⟩ : ∃ w1, w1 = (w.alloc (exprBox e)) := ⟨_, rfl⟩
    have HW := Lib.hid hw1
    have R0 : Hid (w1.heap[w.heap.size]? = some (exprBox e)) := by rw [hw1]; exact new_row _ _ rfl
    have HB : Hid (Below w.heap.size w w1) := by rw [hw1]; exact below_new (Below.refl _ _) _
    have SZ : Hid (w1.heap.size = w.heap.size + 1) := by show _ = _; rw [hw1]; simp only [World.size_alloc]
    obtain ⟨p0_0, p0_1, p0_2, p0_3, p0_4, p0_5⟩ := expr_row R0.out
    clear hw1
    by_cases h0 : (0 : Int) < (e.m : Int)
    · go_enter Try.func60, Try.ntmps60
      go_upto_region 1 with fail
      rw [show (w.alloc (exprBox e)) = w1 from HW.out.symm]
      clear HW
      go_wp2_with fail
      go_loopw [5, 6] (fun a i wr => a = .int .i64 1 ∧ i = .int .i64 0 ∧ wr = w1) (fun _ _ _ => 0)
      case atStart => exact ⟨rfl, rfl, rfl⟩
      case round =>
        obtain ⟨rfl, rfl, rfl⟩ := hrel
        go_wp2_with fail
        go_ret
        exact ⟨rfl, HB.out⟩
    · go_enter Try.func60, Try.ntmps60
      go_upto_region 1 with fail
      rw [show (w.alloc (exprBox e)) = w1 from HW.out.symm]
      clear HW
      go_wp2_with fail
      go_loopw [5, 6] (fun a i wr => a = .int .i64 1 ∧ i = .int .i64 0 ∧ wr = w1) (fun _ _ _ => 0)
      case atStart => exact ⟨rfl, rfl, rfl⟩
      case round =>
        obtain ⟨rfl, rfl, rfl⟩ := hrel
        go_wp2_with fail
        go_ret
        exact ⟨rfl, HB.out⟩
  | d + 1, e, w, hd, h => by
    have IH : Hid (∀ x W, ReadsE W x → Calls Try.prog 60 #[.agg #[.int .i64 x.k, .int .i64 x.n, .int .i64 x.v.k, .int .i64 x.v.n, .string x.v.s, .slice x.a x.m x.c], .int .i64 (d : Int)] W fun r w' => r = .returned (.int .i64 (depthN d x)) ∧ Below W.heap.size W w') := fun x W hx => refDepth_any d x W (by omega) hx
    obtain ⟨D, hD⟩ : ∃ D : Int, ((d + 1 : Nat) : Int) = D := ⟨_, rfl⟩
    have q1 : IntKind.i64.wrap (D - 1) = (d : Int) := by rw [wrap_is (by omega)]; omega
    have qd : 0 < D := by omega
    rw [hD]
    obtain ⟨ek, en, ev, ea, em, ec, eo⟩ := e
    have HR := Lib.hid h
    have HL : Hid (eo.length = em) := h.len
    have hle : em ≤ 9223372036854775807 := h.le
    obtain ⟨r, hr⟩ : ∃ r, Hid (depthN (d + 1) (⟨ek, en, ev, ea, em, ec, eo⟩ : E6) = r) := ⟨_, rfl⟩
    rw [hr.out]
    have HDL : Hid (d ≤ 1000) := by show _ ≤ _; omega
    clear hD hd h
    obtain ⟨w1, hw1⟩ : ∃ w1, w1 = (w.alloc (exprBox (⟨ek, en, ev, ea, em, ec, eo⟩ : E6))) := ⟨_, rfl⟩
    have HW := Lib.hid hw1
    have R0 : Hid (w1.heap[w.heap.size]? = some (exprBox (⟨ek, en, ev, ea, em, ec, eo⟩ : E6))) := by rw [hw1]; exact new_row _ _ rfl
    have HB : Hid (Below w.heap.size w w1) := by rw [hw1]; exact below_new (Below.refl _ _) _
    have SZ : Hid (w1.heap.size = w.heap.size + 1) := by show _ = _; rw [hw1]; simp only [World.size_alloc]
    obtain ⟨p0_0, p0_1, p0_2, p0_3, p0_4, p0_5⟩ := expr_row R0.out
    clear hw1
    dsimp only at p0_0 p0_1 p0_2 p0_3 p0_4 p0_5
    go_enter Try.func60, Try.ntmps60
    go_upto_region 1 with fail
    rw [show (w.alloc (exprBox (⟨ek, en, ev, ea, em, ec, eo⟩ : E6))) = w1 from HW.out.symm]
    clear HW
    go_wp2_with fail
    clear p0_0 p0_1 p0_2 p0_3 p0_4 p0_5
    go_loopw [5, 6] (fun a i wr => ∃ (k : Nat) (z : Int), k ≤ em ∧ a = .int .i64 z ∧ i = .int .i64 k ∧ Hid (((eo.take k).map fun x => 1 + depthN d x).foldl max 1 = z) ∧ Hid (wr.heap[w.heap.size]? = some (exprBox (⟨ek, en, ev, ea, em, ec, eo⟩ : E6))) ∧ Hid (Below w.heap.size w wr)) (fun _ i _ => em - (intOf i).toNat)
    case atStart => exact ⟨0, 1, Nat.zero_le _, rfl, rfl, rfl, R0, HB⟩
    case round =>
      clear HB R0
      obtain ⟨k, z, hk, rfl, rfl, hz, RE, HB⟩ := hrel
      by_cases hlt : k < em
      · obtain ⟨b, o, x, hab, hb, hx, hxr, hld⟩ := HR.out.at_ hlt
        dsimp only at hab hx
        subst hab
        obtain ⟨d0, d1, d2, d3, d4, d5⟩ := hld wr HB.out
        have HX := Lib.hid hx
        have HXR := Lib.hid (hxr.keep HB.out)
        have y1 : (k : Int) < (em : Int) := by omega
        have y0 : (0 : Int) ≤ (k : Int) := by omega
        obtain ⟨q0, q1_, q2, q3, q4, q5⟩ := expr_row RE.out
        dsimp only at q0 q1_ q2 q3 q4 q5
        clear hb hx hxr hld
        obtain ⟨y, hy⟩ : ∃ y, Hid (depthN d x = y) := ⟨_, rfl⟩
        have C := Lib.hid (IH.out x wr HXR.out)
        rw [hy.out] at C
        have hyr := depth_rng d x
        rw [hy.out] at hyr
        have hdl := HDL.out
        have w1_ : IntKind.i64.wrap (1 + y) = 1 + y := wrap_is (by omega)
        clear hyr hdl
        go_wp2_with fail
        refine C.out.mono ?_
        rintro r3 w3 ⟨rfl, b3⟩
        have HB3 := Lib.hid (below_then HB.out b3)
        have RE3 := Lib.hid (row_below RE.out b3)
        have hz2 : Hid (((eo.take (k + 1)).map fun x => 1 + depthN d x).foldl max 1 = max z (1 + y)) := by show _ = _; rw [fold_next HX.out, hz.out, hy.out]
        clear b3 C d0 d1 d2 d3 d4 d5 q0 q1_ q2 q3 q4 q5
        rcases Int.lt_or_le z (1 + y) with h1 | h1
        · have hz3 : Hid (((eo.take (k + 1)).map fun x => 1 + depthN d x).foldl max 1 = 1 + y) := by show _ = _; rw [hz2.out]; omega
          have hm : max z (1 + y) = 1 + y := by omega
          clear h1 hz2
          go_wp2_with fail
          all_goals exact ⟨⟨k + 1, 1 + y, by omega, by first | rfl | (congr 1; omega), by go_num, hz3, RE3, HB3⟩, by simp [intOf]; omega⟩
        · have hz3 : Hid (((eo.take (k + 1)).map fun x => 1 + depthN d x).foldl max 1 = z) := by show _ = _; rw [hz2.out]; omega
          have hm : max z (1 + y) = z := by omega
          clear h1 hz2
          go_wp2_with fail
          all_goals exact ⟨⟨k + 1, z, by omega, by first | rfl | (congr 1; omega), by go_num, hz3, RE3, HB3⟩, by simp [intOf]; omega⟩
      · obtain rfl : k = em := by omega
        have y1 : ¬ (k : Int) < (k : Int) := by omega
        obtain ⟨q0, q1_, q2, q3, q4, q5⟩ := expr_row RE.out
        dsimp only at q0 q1_ q2 q3 q4 q5
        have hr2 : Hid (r = z) := by show _ = _; rw [← hr.out, depthN, ← hz.out]; dsimp only; rw [List.take_of_length_le (by rw [HL.out]; exact Nat.le_refl _)]
        go_wp2_with fail
        go_ret
        exact ⟨ret_int hr2.out.symm, HB.out⟩
end Go.Proofs.Ytkpkkkmokgmhfaa
