/- Layer 11: tables put behind a row of the call's own, at a step of a region that draws its order. -/
import Derived.Test.YtogfnjlhfbpneaaSchApp
namespace Go.Proofs.Ytogfnjlhfbpneaa
set_option maxRecDepth 100000
open Go.RowKit

theorem t6one (x : T6) : ∀ v ∈ x.cells, v.oneCell' = true := by
  intro v hv
  simp only [T6.cells, List.mem_cons, List.not_mem_nil, or_false] at hv
  rcases hv with rfl | rfl | rfl | rfl | rfl | rfl <;> rfl
theorem t6ones (l : List T6) : ∀ v ∈ l.flatMap T6.cells, v.oneCell' = true := by
  intro v hv
  obtain ⟨x, _, hx⟩ := List.mem_flatMap.1 hv
  exact t6one x v hx
theorem step_appT {w W0 : World} {ops : Array Oper} {o : Oper} {a : Act} {K : Act → World → Prop} {Q : Exit → Act → World → Prop} {E : Prop} (hgd : o.guard = none) (s x : Operand)
    (ho : o.op = .call { callee := .builtin .append, args := #[s, x], argTypes := #[24, 24] })
    (base : Nat) (v : Value) (n : Nat) (l : List T6) (b q m c : Nat) (news : List T6) (hx : a.eval x = .slice (some ⟨b, q, none⟩) m c) (hs : a.eval s = v)
    (hown : w.ownsRow base 39 6 v n (l.flatMap T6.cells)) (hrd : RdTb w (some ⟨b, q, none⟩) m c news) (hn : n + m ≤ 4294967296)
    (hbel : Below base W0 w) (hbase : base ≤ w.heap.size)
    (h : ∀ v' w', w'.ownsRow base 39 6 v' (n + m) ((l ++ news).flatMap T6.cells) → Below base W0 w' → base ≤ w'.heap.size → (v = .slice none 0 0 → Below w.heap.size w w') → K (a.put o.dst v') w') :
    if Region.wanted o (yielded ops a.tmps) = true then Oper.wp Try.prog o a w K Q else E := by
  have hw : Region.wanted o (yielded ops a.tmps) = true := by simp [Region.wanted, hgd]
  rw [if_pos hw]
  obtain ⟨i0, hi0, hz0, hz1, hz2⟩ := info_parts Try.infoTab
  refine wp_append_own w s x 24 ho base 39 i0 _ 6 136 Try.underlying24 hi0 hz0 hz1 hz2 rfl (by omega) v n (l.flatMap T6.cells) hs hown ⟨b, q, none⟩ m c (news.flatMap T6.cells) hx (by rw [flat_len t6len, hrd.len]) (rdg_cells t6len hrd)
    (t6ones news) (by simp only [maxLen]; omega) (by omega) hbase ?_
  intro v' w' hown' hgrow _
  refine h v' w' (by rw [List.flatMap_append]; exact hown') (hbel.grown hgrow hbase (fun k hk => (hown.lt k hk).1)) (by have := hgrow.size; omega) ?_
  intro hv
  subst hv
  exact Below.grown (Below.refl w.heap.size w) hgrow (Nat.le_refl _) (fun k hk => by cases hk)
/-- l[k:] of a row that is there -/
theorem run_fromTab {b o n c k : Nat} (h1 : k ≤ n) : ∃ q, ∀ W : World, (Instr.slice 24 (.slice (some ⟨b, o, none⟩) n c) (some (.int .i64 (k : Int))) none none).run Try.prog W = .ok (.slice (some ⟨b, q, none⟩) (n - k) (c - k)) W ∧ ∀ l, RdTb W (some ⟨b, o, none⟩) n c l → RdTb W (some ⟨b, q, none⟩) (n - k) (c - k) (l.drop k) := by
  have hz : ∀ W, (sizeOf (Try.prog.elem 24)).run Try.prog W = .ok 6 W := fun W => by kernel_rfl
  have ht : Try.prog.underlying 24 = some (.slice (Try.prog.elem 24)) := by kernel_rfl
  refine ⟨if c = k then o else o + k * 6, fun W => ⟨?_, fun l hl => ?_⟩⟩
  · rw [run_slice_l (P := Try.prog) (w := W) (t := 24) (a := some ⟨b, o, none⟩) (len := n) (cap := c) (ht := ht) (kl := .i64) (l := k) (h0 := by omega) (h1 := by omega), hz]
    have e : (⟨b, o, none⟩ : Addr).add (k * 6) = ⟨b, o + k * 6, none⟩ := by unfold Addr.add; by_cases h0 : k * 6 = 0 <;> simp [h0]
    by_cases hc : c = k
    · simp [Result.andThen, sliced, hc]
    · simp [Result.andThen, sliced, hc, e]
  · obtain ⟨hl1, h2, h3, hx⟩ := hl
    refine ⟨by rw [List.length_drop]; omega, by omega, by omega, fun h0 => ?_⟩
    obtain ⟨b', o', e, hb, hc⟩ := hx (by omega)
    cases e
    refine ⟨b, _, rfl, hb, fun j hj i v hv => ?_⟩
    rw [List.length_drop] at hj
    rw [List.getElem_drop] at hv
    have := hc (k + j) (by omega) i v hv
    rw [if_neg (by omega)]
    rw [← this]
    congr 2
    omega
end Go.Proofs.Ytogfnjlhfbpneaa
