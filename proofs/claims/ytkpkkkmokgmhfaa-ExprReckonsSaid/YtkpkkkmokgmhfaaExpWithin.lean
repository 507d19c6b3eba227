/- Layer 12: how deep an expression is. -/
import Derived.Test.YtkpkkkmokgmhfaaExpWords
import Derived.WalkMore
namespace Go.Proofs.Ytkpkkkmokgmhfaa
set_option maxRecDepth 100000
open Go.RowKit Go.MapKept

theorem all_next {p : E6 → Bool} {l : List E6} {k : Nat} {x : E6} (hx : l[k]? = some x) (ha : ∀ j y, j < k → l[j]? = some y → p y = true) (hp : p x = true) : ∀ j y, j < k + 1 → l[j]? = some y → p y = true := by
  intro j y hj hy
  by_cases h : j = k
  · subst h; rw [hx] at hy; cases hy; exact hp
  · exact ha j y (by omega) hy
theorem all_yes {p : E6 → Bool} {l : List E6} {n : Nat} (hn : l.length = n) (ha : ∀ j y, j < n → l[j]? = some y → p y = true) : l.all p = true := by
  rw [List.all_eq_true]
  intro x hx
  obtain ⟨j, hj, rfl⟩ := List.getElem_of_mem hx
  exact ha j _ (by omega) (List.getElem?_eq_getElem hj)
theorem all_no {p : E6 → Bool} {l : List E6} {k : Nat} {x : E6} (hx : l[k]? = some x) (hp : p x = false) : l.all p = false := by
  rw [List.all_eq_false]
  exact ⟨x, List.mem_of_getElem? hx, by rw [hp]; simp⟩

set_option maxHeartbeats 6400000 in
theorem within_any : ∀ (d : Nat) (e : E6) (w : World), d ≤ 1000 → ReadsE w e → Calls Try.prog 58 #[e.agg, .int .i64 (d : Int)] w fun r w' => r = .returned (.bool (withinB d e)) ∧ Below w.heap.size w w'
  | 0, e, w, _, h => by
    obtain ⟨w1, hw1⟩ : ∃ w1, w1 = (w.alloc (exprBox e)) := ⟨_, rfl⟩
    have HW := Lib.hid hw1
    have R0 : Hid (w1.heap[w.heap.size]? = some (exprBox e)) := by rw [hw1]; exact new_row _ _ rfl
    have HB : Hid (Below w.heap.size w w1) := by rw [hw1]; exact below_new (Below.refl _ _) _
    have SZ : Hid (w1.heap.size = w.heap.size + 1) := by show _ = _; rw [hw1]; simp only [World.size_alloc]
    obtain ⟨p0_0, p0_1, p0_2, p0_3, p0_4, p0_5⟩ := expr_row R0.out
    clear hw1
    go_enter Try.func58, Try.ntmps58
    go_upto_region 1 with fail
    rw [show (w.alloc (exprBox e)) = w1 from HW.out.symm]
    clear HW
    go_wp2_with fail
    go_ret
    exact ⟨rfl, HB.out⟩
  | d + 1, e, w, hd, h => by
    have IH : Hid (∀ x W, ReadsE W x → Calls Try.prog 58 #[.agg #[.int .i64 x.k, .int .i64 x.n, .int .i64 x.v.k, .int .i64 x.v.n, .string x.v.s, .slice x.a x.m x.c], .int .i64 (d : Int)] W fun r w' => r = .returned (.bool (withinB d x)) ∧ Below W.heap.size W w') := fun x W hx => within_any d x W (by omega) hx
    obtain ⟨D, hD⟩ : ∃ D : Int, ((d + 1 : Nat) : Int) = D := ⟨_, rfl⟩
    have q0 : (D == 0) = false := beq_no (by omega)
    have q1 : IntKind.i64.wrap (D - 1) = (d : Int) := by rw [wrap_is (by omega)]; omega
    rw [hD]
    obtain ⟨r, hr⟩ : ∃ r, Hid (e.of.all (withinB d) = r) := ⟨_, rfl⟩
    have hr0 : withinB (d + 1) e = r := hr.out
    rw [hr0]
    obtain ⟨ek, en, ev, ea, em, ec, eo⟩ := e
    have HR := Lib.hid h
    have HL : Hid (eo.length = em) := h.len
    have hle : em ≤ 9223372036854775807 := h.le
    clear hD hd hr0 h
    dsimp only at hr
    obtain ⟨w1, hw1⟩ : ∃ w1, w1 = (w.alloc (exprBox (⟨ek, en, ev, ea, em, ec, eo⟩ : E6))) := ⟨_, rfl⟩
    have HW := Lib.hid hw1
    have R0 : Hid (w1.heap[w.heap.size]? = some (exprBox (⟨ek, en, ev, ea, em, ec, eo⟩ : E6))) := by rw [hw1]; exact new_row _ _ rfl
    have HB : Hid (Below w.heap.size w w1) := by rw [hw1]; exact below_new (Below.refl _ _) _
    have SZ : Hid (w1.heap.size = w.heap.size + 1) := by show _ = _; rw [hw1]; simp only [World.size_alloc]
    obtain ⟨p0_0, p0_1, p0_2, p0_3, p0_4, p0_5⟩ := expr_row R0.out
    clear hw1
    dsimp only at p0_0 p0_1 p0_2 p0_3 p0_4 p0_5
    go_enter Try.func58, Try.ntmps58
    go_upto_region 1 with fail
    rw [show (w.alloc (exprBox (⟨ek, en, ev, ea, em, ec, eo⟩ : E6))) = w1 from HW.out.symm]
    clear HW
    go_wp2_with fail
    go_loopw [12] (fun i wr => ∃ k : Nat, k ≤ em ∧ i = .int .i64 k ∧ Hid (∀ j y, j < k → eo[j]? = some y → withinB d y = true) ∧ Hid (Below w.heap.size w wr)) (fun i _ => em - (intOf i).toNat)
    case atStart => exact ⟨0, Nat.zero_le _, rfl, (by show ∀ j y, _; intro j y h; exact absurd h (by omega)), HB⟩
    case round =>
      clear HB p0_0 p0_1 p0_2 p0_3 p0_4 p0_5
      obtain ⟨k, hk, rfl, hA, HB⟩ := hrel
      by_cases hlt : k < em
      · obtain ⟨b, o, x, hab, hb, hx, hxr, hld⟩ := HR.out.at_ hlt
        dsimp only at hab hx
        subst hab
        obtain ⟨d0, d1, d2, d3, d4, d5⟩ := hld wr HB.out
        obtain ⟨w2, hw2⟩ : ∃ w2, w2 = wr.alloc (exprBox x) := ⟨_, rfl⟩
        have HW2 := Lib.hid hw2
        have B2 : Below wr.heap.size wr w2 := by rw [hw2]; exact below_new (Below.refl _ _) _
        have HB2 := Lib.hid (below_then HB.out B2)
        have RX : Hid (w2.heap[wr.heap.size]? = some (exprBox x)) := by rw [hw2]; exact heap_alloc_new _ _
        have HX := Lib.hid hx
        obtain ⟨s, hs⟩ : ∃ s, Hid (withinB d x = s) := ⟨_, rfl⟩
        have C := Lib.hid (IH.out x w2 (hxr.keep HB2.out))
        rw [hs.out] at C
        have y1 : (k : Int) < (em : Int) := by omega
        have y0 : (0 : Int) ≤ (k : Int) := by omega
        clear hw2 B2 hb hx hxr hld
        go_upto_region 6 with fail
        rw [show wr.alloc (exprBox x) = w2 from HW2.out.symm]
        clear HW2 d0 d1 d2 d3 d4 d5
        generalize wr.heap.size = gx at RX ⊢
        obtain ⟨z0, z1, z2, z3, z4, z5⟩ := expr_row RX.out
        go_wp2_with fail
        refine C.out.mono ?_
        rintro r3 w3 ⟨rfl, b3⟩
        have HB3 := Lib.hid (below_then HB2.out b3)
        clear b3 z0 z1 z2 z3 z4 z5 C
        cases s with
        | true =>
          have hA2 : Hid (∀ j y, j < k + 1 → eo[j]? = some y → withinB d y = true) := by show ∀ j y, _; exact all_next HX.out hA.out hs.out
          go_wp2_with fail
          exact ⟨⟨k + 1, by omega, by go_num, hA2, HB3⟩, by simp [intOf]; omega⟩
        | false =>
          have hr2 : Hid (r = false) := by show _ = _; rw [← hr.out]; exact all_no HX.out hs.out
          go_wp2_with fail
          go_ret
          exact ⟨ret_bool hr2.out.symm, HB3.out⟩
      · obtain rfl : k = em := by omega
        have y1 : ¬ (k : Int) < (k : Int) := by omega
        have hr2 : Hid (r = true) := by show _ = _; rw [← hr.out]; exact all_yes HL.out hA.out
        go_wp2_with fail
        go_ret
        exact ⟨ret_bool hr2.out.symm, HB.out⟩
end Go.Proofs.Ytkpkkkmokgmhfaa
