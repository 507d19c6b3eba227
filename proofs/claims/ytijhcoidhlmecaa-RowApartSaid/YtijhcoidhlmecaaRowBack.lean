/- Layer 3: a row's bytes are got as it, whatever stands behind them; bytes that are got are those that it has. -/
import Derived.Test.YtijhcoidhlmecaaRowRefGet
namespace Go.Proofs.Ytijhcoidhlmecaa
set_option maxRecDepth 100000
open Go.RowKit

theorem getsZ_put : ∀ (a : List V3) (l : List Int), (∀ v ∈ a, v.right = true) → getsZ a.length (a.flatMap bytesV ++ l) = some (a, (a.flatMap bytesV).length)
  | [], l, _ => by simp [getsZ]
  | x :: a, l, h => by
    obtain ⟨h1, h2, h3, h4, h5⟩ := val_put_get (h x (by simp)) (a.flatMap bytesV ++ l)
    have e : (x :: a).flatMap bytesV ++ l = bytesV x ++ (a.flatMap bytesV ++ l) := by rw [List.flatMap_cons, List.append_assoc]
    have hl : hL (bytesV x ++ (a.flatMap bytesV ++ l)) = (bytesV x).length := by
      show (1 + hM (bytesZ x.k x.n x.s ++ (a.flatMap bytesV ++ l))).toNat = (bytesZ x.k x.n x.s).length
      rw [h5]; rfl
    have hv : hV (bytesV x ++ (a.flatMap bytesV ++ l)) = x := by
      show V3.mk (hK (bytesZ x.k x.n x.s ++ (a.flatMap bytesV ++ l))) (hN (bytesZ x.k x.n x.s ++ (a.flatMap bytesV ++ l))) (hS (bytesZ x.k x.n x.s ++ (a.flatMap bytesV ++ l))) = x
      rw [h2, h3, h4]
    rw [e, List.length_cons, getsZ, if_pos (by exact h1), hl, List.drop_left, getsZ_put a l (fun v hv => h v (by simp [hv])), hv]
    simp

theorem rowGetZ_put (a : List V3) (l : List Int) (h : ∀ v ∈ a, v.right = true) (hn : a.length ≤ 60000) : rowGetZ (rowZ a ++ l) = some (a, (rowZ a).length) := by
  have e : rowZ a ++ l = putZ a.length ++ (a.flatMap bytesV ++ l) := by rw [rowZ, List.append_assoc]
  rw [rowGetZ, e, getZ_put _ ⟨by omega, by omega⟩]
  simp only []
  rw [if_pos (by omega), List.drop_left, Int.toNat_natCast, getsZ_put a l h]
  simp [rowZ]

theorem rowGetZ_some {l : List Int} {vs : List V3} {m : Nat} (hb : ∀ x ∈ l, 0 ≤ x ∧ x ≤ 255) (h : rowGetZ l = some (vs, m)) :
    m ≤ l.length ∧ l.take m = rowZ vs ∧ (∀ v ∈ vs, v.right = true) ∧ (∀ v ∈ vs, v.s.size ≤ l.length) ∧ vs.length ≤ l.length := by
  unfold rowGetZ at h
  split at h
  · rename_i n k hg
    split at h
    · rename_i hn
      simp only [Option.map_eq_some_iff, Prod.mk.injEq] at h
      obtain ⟨⟨vs', m'⟩, hr, rfl, rfl⟩ := h
      obtain ⟨_, h2, _, _, h5⟩ := getZ_some hb hg
      obtain ⟨g1, g2, g3, g4, g5, g6⟩ := getsZ_some (fun x hx => hb x (List.mem_of_mem_drop hx)) hr
      rw [List.length_drop] at g3 g6
      simp only at g1 g2 g3 g4 g5 g6 ⊢
      refine ⟨by omega, ?_, g5, fun v hv => by have := g6 v hv; omega, by omega⟩
      rw [List.take_add, h2, g4, rowZ, g1, Int.toNat_of_nonneg hn]
    · cases h
  · cases h

theorem right_ok {v : V3} (h : v.right = true) : v.Ok := by
  simp only [V3.right, rightZ, Bool.or_eq_true, Bool.and_eq_true, beq_iff_eq, decide_eq_true_eq] at h
  refine ⟨by omega, by omega, by omega⟩

theorem rowZ_len {a : List V3} (h : ∀ v ∈ a, v.s.size ≤ 100000) : (rowZ a).length ≤ 10 + 100011 * a.length := by
  have hp := (putZ_len a.length).2
  have : (a.flatMap bytesV).length ≤ 100011 * a.length := by
    induction a with
    | nil => simp
    | cons x a ih =>
      have h1 := bytesV_len (h x (by simp))
      have h2 := ih (fun v hv => h v (by simp [hv])) (putZ_len a.length).2
      rw [List.flatMap_cons, List.length_append, List.length_cons]
      omega
  rw [rowZ, List.length_append]
  omega

theorem bytesV_rng {v : V3} (h : v.Ok) : ∀ x ∈ bytesV v, 0 ≤ x ∧ x ≤ 255 := bytes_rng _ _ _ ⟨h.1, h.2.1⟩ (by have := h.2.2; omega)
theorem rowZ_rng {a : List V3} (h : ∀ v ∈ a, v.Ok) (hn : a.length ≤ 60000) : ∀ x ∈ rowZ a, 0 ≤ x ∧ x ≤ 255 := by
  intro x hx
  rw [rowZ, List.mem_append, List.mem_flatMap] at hx
  rcases hx with hx | ⟨v, hv, hx⟩
  · exact putZ_bytes _ ⟨by omega, by omega⟩ x hx
  · exact bytesV_rng (h v hv) x hx

/-- rows of right values have the same bytes just if they are the same -/
theorem rowZ_inj {a b : List V3} (ha : ∀ v ∈ a, v.right = true) (hb : ∀ v ∈ b, v.right = true) (hn : a.length ≤ 60000) (hm : b.length ≤ 60000) : decide (rowZ a = rowZ b) = sameR a b := by
  cases hs : sameR a b with
  | true =>
    rw [sameR_iff] at hs
    subst hs
    simp
  | false =>
    rw [decide_eq_false_iff_not]
    intro e
    have h1 := rowGetZ_put a [] ha hn
    have h2 := rowGetZ_put b [] hb hm
    rw [e] at h1
    rw [h1] at h2
    injection h2 with h2
    injection h2 with h2 _
    rw [(sameR_iff a b).2 h2] at hs
    cases hs

theorem rowLess_more : ∀ (a : List V3) (v : V3), lessR a (a ++ [v]) = true ∧ lessR (a ++ [v]) a = false
  | [], v => ⟨rfl, rfl⟩
  | x :: a, v => by
    obtain ⟨h1, h2⟩ := rowLess_more a v
    rw [List.cons_append, lessR, lessR, if_pos ((sameV_iff x x).2 rfl), if_pos ((sameV_iff x x).2 rfl)]
    exact ⟨h1, h2⟩
end Go.Proofs.Ytijhcoidhlmecaa
