/- Layer 10: slices.Equal of parts. -/
import Derived.Test.YtlgpijdemfccaaaMbMul
import Derived.BigQuiet
import Derived.Deep.QuietTactic
namespace Go.Proofs.Ytlgpijdemfccaaa
set_option maxRecDepth 100000
open Go.RowKit

theorem eq_take {l m : List P11} {k : Nat} {x y : P11} (hx : l[k]? = some x) (hy : m[k]? = some y) (h : l.take k = m.take k) (hxy : x = y) : l.take (k + 1) = m.take (k + 1) := by
  rw [List.take_add_one, List.take_add_one, hx, hy, h, hxy]
theorem ne_at {l m : List P11} {k : Nat} {x y : P11} (hx : l[k]? = some x) (hy : m[k]? = some y) (h : x ≠ y) : l ≠ m := by
  rintro rfl
  rw [hx] at hy
  injection hy with hy
  exact h hy

set_option maxHeartbeats 6400000 in
theorem equalT_any (A B : Option Addr) (n m c d : Nat) (l l' : List P11) (w : World) (h : RdP w A n c l) (h' : RdP w B m d l') :
    Calls Try.prog 23 #[.slice A n c, .slice B m d] w fun e w' => e = .returned (.bool (decide (l = l'))) ∧ Below w.heap.size w w' := by
  have hle := h.le; have hle' := h'.le
  have HL := Lib.hid h.len; have HL' := Lib.hid h'.len
  obtain ⟨F, hF⟩ : ∃ F, Hid (decide (l = l') = F) := ⟨_, rfl⟩
  rw [hF.out]
  by_cases hnm : n = m
  rotate_left
  · have hF2 : Hid (false = F) := by
      show _ = _
      rw [← hF.out]
      exact (decide_eq_false (fun e => hnm (by rw [← HL.out, ← HL'.out, e]))).symm
    have e1 : ((n : Int) == (m : Int)) = false := by simpa using fun e => hnm (by omega)
    have e2 : (n == m) = false := by simpa using hnm
    clear h h' hnm
    go_enter Try.func23, Try.ntmps23
    go_wp2_with fail
    go_ret
    exact ⟨ret_bool hF2.out, Below.refl _ _⟩
  subst hnm
  have H1 := Lib.hid h; have H2 := Lib.hid h'
  clear h h'
  go_enter Try.func23, Try.ntmps23
  go_wp2_with fail
  go_loopw [13] (fun i wr => ∃ k : Nat, k ≤ n ∧ i = .int .i64 k ∧ Hid (l.take k = l'.take k) ∧ Hid (Below w.heap.size w wr)) (fun i _ => n - (intOf i).toNat)
  case atStart => exact ⟨0, Nat.zero_le _, rfl, by show _ = _; simp, Below.refl _ _⟩
  case round =>
    obtain ⟨k, hk, rfl, HT, HB⟩ := hrel
    by_cases hlt : k < n
    · obtain ⟨b, o, x, rfl, hb, hx, hld⟩ := H1.out.part hlt
      obtain ⟨b', o', y, rfl, hb', hy, hld'⟩ := H2.out.part hlt
      obtain ⟨c0, c1, c2, c3, c4, c5, c6, c7, c8, c9, c10⟩ := hld wr HB.out
      obtain ⟨d0, d1, d2, d3, d4, d5, d6, d7, d8, d9, d10⟩ := hld' wr HB.out
      have z1 : (0 : Int) ≤ (k : Int) := by omega
      have z2 : (k : Int) < (n : Int) := by omega
      obtain ⟨q, hq⟩ : ∃ q, Hid (decide (x = y) = q) := ⟨_, rfl⟩
      have EQ : ∀ W, (Op.equalIn 10000 45 (.agg #[.int .i64 x.v.k, .int .i64 x.v.n, .string x.v.s, .int .i64 x.d.d, .int .i64 x.d.s, .int .i64 x.i, .int .i64 x.t, .int .i64 x.a.d, .int .i64 x.a.s, .int .i64 x.j, .bool x.g])
        (.agg #[.int .i64 y.v.k, .int .i64 y.v.n, .string y.v.s, .int .i64 y.d.d, .int .i64 y.d.s, .int .i64 y.i, .int .i64 y.t, .int .i64 y.a.d, .int .i64 y.a.s, .int .i64 y.j, .bool y.g])).run Try.prog W = .ok q W := fun W => by rw [← hq.out]; exact run_equalIn_part x y W
      have HN : Hid (q = true → l.take (k + 1) = l'.take (k + 1)) := fun e => eq_take hx hy HT.out (of_decide_eq_true (hq.out.trans e))
      have HF : Hid (q = false → false = F) := fun e => by rw [← hF.out]; exact (decide_eq_false (ne_at hx hy (of_decide_eq_false (hq.out.trans e)))).symm
      clear hld hld' hx hy hq HT
      go_wp2_with fail
      go_quiet (fail)
      have HB2 := Lib.hid (below_drewN HB.out nq)
      generalize wr.drewN nq = w3 at HB2 ⊢
      clear c0 c1 c2 c3 c4 c5 c6 c7 c8 c9 c10 d0 d1 d2 d3 d4 d5 d6 d7 d8 d9 d10 EQ HB
      cases q with
      | true =>
        have HN2 := Lib.hid (HN.out rfl)
        go_wp2_with fail
        exact ⟨⟨k + 1, by omega, by go_num, HN2, HB2⟩, by simp [intOf]; omega⟩
      | false =>
        have HF2 := Lib.hid (HF.out rfl)
        go_wp2_with fail
        go_ret
        exact ⟨ret_bool HF2.out, HB2.out⟩
    · have hF2 : Hid (true = F) := by
        have h1 := HT.out
        rw [List.take_of_length_le (by have := HL.out; omega), List.take_of_length_le (by have := HL'.out; omega)] at h1
        show _ = _
        rw [← hF.out]; exact (decide_eq_true h1).symm
      go_wp2_with fail
      go_ret
      exact ⟨ret_bool hF2.out, HB.out⟩
end Go.Proofs.Ytlgpijdemfccaaa

