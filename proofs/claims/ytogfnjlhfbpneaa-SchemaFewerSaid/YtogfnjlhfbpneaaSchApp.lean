/- Layer 11: tables put behind a full slice of tables: new memory. -/
import Derived.Test.YtogfnjlhfbpneaaSchMem
import Derived.Deep.RegionHeld3
namespace Go.Proofs.Ytogfnjlhfbpneaa
set_option maxRecDepth 100000
open Go.RowKit

abbrev RdTb (w : World) (A : Option Addr) (n c : Nat) (l : List T6) : Prop := RdG T6.cells 6 w A n c l
theorem Try.infoTab : (Try.prog.info? 39).map (fun i => (i.zero, i.size, i.bytes)) = some (some (.agg #[.string ⟨#[]⟩, .slice none 0 0, .slice none 0 0, .slice none 0 0, .slice none 0 0, .slice none 0 0]), 6, 136) := by kernel_rfl
/-- tables behind a full slice -/
theorem run_fullT {w : World} (ty : TypeId) (A : Option Addr) (n : Nat) (xs : List T6) (b o m c : Nat) (news : List T6)
    (ha : RdTb w A n n xs) (hrd : RdTb w (some ⟨b, o, none⟩) m c news) (hm : 0 < m) (hn : n + m ≤ 4294967296) :
    ∃ A' c' w', (Builtin.append_ #[24, 24] ty #[.slice A n n, .slice (some ⟨b, o, none⟩) m c]).run Try.prog w = .ok (.slice A' (n + m) c') w' ∧ RdTb w' A' (n + m) c' (xs ++ news) ∧ Below w.heap.size w w' := by
  obtain ⟨i0, hi0, hz0, hz1, hz2⟩ := info_parts Try.infoTab
  have hge := grownCap_ge w (n + m) n 39
  have hcm : grownCap w (n + m) n 39 ≤ maxLen := grownCap_le_maxLen w (n + m) n 39 (by simp only [maxLen]; omega)
  have hlen : (xs ++ news).length = n + m := by rw [List.length_append, ha.len, hrd.len]
  have hl : (news.flatMap T6.cells).length = m * i0.size := by rw [flat_len t6len, hrd.len, hz1]
  have rd : ∀ (cap : Nat) (zs : Array Value), n + m ≤ cap → cap ≤ maxLen → RdTb (w.drew.alloc (.cells ((xs.flatMap T6.cells).toArray ++ (news.flatMap T6.cells).toArray ++ zs) 39)) (some ⟨w.heap.size, 0, none⟩) (n + m) cap (xs ++ news) := by
    intro cap zs h1 h2
    refine ⟨hlen, h1, h2, fun _ => ⟨w.heap.size, 0, rfl, by simp, fun j hj i v hv => ?_⟩⟩
    have hf := flat_at t6len (xs ++ news) j hj i v hv
    rw [List.flatMap_append] at hf
    have hlt := (List.getElem?_eq_some_iff.1 hf).1
    rw [cell_of_row _ w.heap.size (0 + j * 6 + i) _ 39 (0, 0) (heap_alloc_new w.drew _), Nat.zero_add, Array.getElem?_append_left (by simpa using hlt), List.append_toArray, List.getElem?_toArray, hf]
  have bel : ∀ (o : Obj), Below w.heap.size w (w.drew.alloc o) := fun o => ((Below.refl _ _).drew).alloc (Nat.le_refl _) o
  by_cases h0 : n = 0
  · subst h0
    have he : xs = [] := List.eq_nil_of_length_eq_zero ha.len
    subst he
    cases A with
    | none =>
      have hr := run_append_nil (P := Try.prog) w 24 ty 39 i0 _ Try.underlying24 hi0 hz0 ⟨b, o, none⟩ m c (news.flatMap T6.cells) hl (rdg_cells t6len hrd) hm (by omega) (by rw [hz2]; omega)
      refine ⟨_, _, _, by simpa using hr, ?_, bel _⟩
      have := rd (grownCap w m 0 39) (Builtin.zeroCells (Value.cells (.agg #[.string ⟨#[]⟩, .slice none 0 0, .slice none 0 0, .slice none 0 0, .slice none 0 0, .slice none 0 0])) (grownCap w m 0 39 - m)) (by simpa using hge) (by simpa using hcm)
      simpa using this
    | some ad =>
      have hr := run_append_grow (P := Try.prog) w 24 ty 39 i0 _ Try.underlying24 hi0 hz0 ad 0 0 [] (by simp) (by simp) ⟨b, o, none⟩ m c (news.flatMap T6.cells) hl (rdg_cells t6len hrd) (by omega) (by omega) (growslice_fits (by omega) (by rw [hz2]; omega))
      exact ⟨_, _, _, hr, rd _ _ hge hcm, bel _⟩
  · obtain ⟨b', o', rfl, hb'⟩ := ha.hsize (by omega)
    have hr := run_append_grow (P := Try.prog) w 24 ty 39 i0 _ Try.underlying24 hi0 hz0 ⟨b', o', none⟩ n n (xs.flatMap T6.cells) (by rw [flat_len t6len, ha.len, hz1]) (rdg_cells t6len ha) ⟨b, o, none⟩ m c (news.flatMap T6.cells) hl (rdg_cells t6len hrd) (by omega) (by omega) (growslice_fits (by omega) (by rw [hz2]; omega))
    exact ⟨_, _, _, hr, rd _ _ hge hcm, bel _⟩

/-- a[:n:n] -/
theorem run_fulltabs {A : Option Addr} {n c : Nat} (h : n ≤ c) (W : World) : (Instr.slice 24 (.slice A n c) none (some (.int .i64 n)) (some (.int .i64 n))).run Try.prog W = .ok (.slice A n n) W := by
  have hz : (sizeOf (Try.prog.elem 24)).run Try.prog W = .ok 6 W := by kernel_rfl
  have ht : Try.prog.underlying 24 = some (.slice (Try.prog.elem 24)) := by kernel_rfl
  rw [run_slice_hm (P := Try.prog) (w := W) (t := 24) (a := A) (len := n) (cap := c) (ht := ht) (kh := .i64) (km := .i64) (h := n) (m := n) (h0 := by omega) (h2 := by omega) (h3 := by omega), hz]
  have ha : A.map (·.add (0 * 6)) = A := by cases A <;> simp [Addr.add]
  simp only [Result.andThen, sliced, ha, Int.toNat_natCast, Nat.sub_zero, ite_self]

/-- at a step of a region that draws its order -/
theorem step_fullT {w : World} {ops : Array Oper} {o : Oper} {a : Act} {K : Act → World → Prop} {Q : Exit → Act → World → Prop} {E : Prop} (hgd : o.guard = none) (s x : Operand)
    (ho : o.op = .call { callee := .builtin .append, args := #[s, x], argTypes := #[24, 24] })
    (A : Option Addr) (n : Nat) (xs : List T6) (b q m c : Nat) (news : List T6) (hx : a.eval x = .slice (some ⟨b, q, none⟩) m c) (hs : a.eval s = .slice A n n)
    (ha : RdTb w A n n xs) (hrd : RdTb w (some ⟨b, q, none⟩) m c news) (hm : 0 < m) (hn : n + m ≤ 4294967296)
    (h : ∀ A' c' w', RdTb w' A' (n + m) c' (xs ++ news) → Below w.heap.size w w' → K (a.put o.dst (.slice A' (n + m) c')) w') :
    if Region.wanted o (yielded ops a.tmps) = true then Oper.wp Try.prog o a w K Q else E := by
  have hw : Region.wanted o (yielded ops a.tmps) = true := by simp [Region.wanted, hgd]
  rw [if_pos hw]
  obtain ⟨A', c', w', hr, h2, h3⟩ := run_fullT o.type A n xs b q m c news ha hrd hm hn
  unfold Oper.wp execOp
  simp only [ho, resolve, invoke, builtin, Sem.run_bind, Sem.run_pure, Result.andThen_ok, List.map_toArray, List.map_cons, List.map_nil, hs, hx, hr]
  exact h _ _ _ h2 h3
end Go.Proofs.Ytogfnjlhfbpneaa
