/- Layer 10: of Go's library: IndexFunc and ContainsFunc of parts, by a closure; Clone of parts. -/
import Derived.Test.YtlgpijdemfccaaaMbMul
import Derived.Lib.AppendZerosOnto
namespace Go.Proofs.Ytlgpijdemfccaaa
set_option maxRecDepth 100000
open Go.RowKit

/-- the place of the first part of which p says so, or -1 -/
def idxT (p : P11 → Bool) (l : List P11) : Int := if l.any p = true then (l.findIdx p : Nat) else -1
theorem idxT_hit {p : P11 → Bool} {l : List P11} {k : Nat} {x : P11} (hno : ∀ y ∈ l.take k, p y = false) (hx : l[k]? = some x) (hp : p x = true) : idxT p l = (k : Nat) := by
  have hk : k < l.length := (List.getElem?_eq_some_iff.1 hx).1
  have h1 : l.any p = true := List.any_eq_true.2 ⟨x, List.mem_of_getElem? hx, hp⟩
  have h2 : l.findIdx p = k := by
    refine (List.findIdx_eq hk).2 ⟨?_, fun j hj => ?_⟩
    · rw [(List.getElem?_eq_some_iff.1 hx).2]; exact hp
    · have : l[j]'(by omega) ∈ l.take k := List.mem_take_iff_getElem.2 ⟨j, by omega, rfl⟩
      simpa using hno _ this
  rw [idxT, if_pos h1, h2]
theorem idxT_miss {p : P11 → Bool} {l : List P11} (hno : ∀ y ∈ l, p y = false) : idxT p l = -1 := by
  rw [idxT, if_neg]
  intro h
  obtain ⟨x, hx, hp⟩ := List.any_eq_true.1 h
  rw [hno x hx] at hp; cases hp
theorem no_nextT {p : P11 → Bool} {l : List P11} {k : Nat} {x : P11} (hno : ∀ y ∈ l.take k, p y = false) (hx : l[k]? = some x) (hp : p x = false) : ∀ y ∈ l.take (k + 1), p y = false := by
  intro y hy
  rw [List.take_add_one, hx] at hy
  rcases List.mem_append.1 hy with h | h
  · exact hno y h
  · simp at h; subst h; exact hp

set_option maxHeartbeats 3200000 in
theorem indexT1_any (g : Nat) (a : Value) (p : P11 → Bool) (A : Option Addr) (n c : Nat) (l : List P11) (w : World) (eg : ∀ args w, (callFunc g args).run Try.prog w = .ok (.enter g args) w)
    (h : RdP w A n c l) (hp : ∀ W, Below w.heap.size w W → ∀ x : P11, Calls Try.prog g #[x.agg, a] W fun e W' => e = .returned (.bool (p x)) ∧ Below W.heap.size W W') :
    Calls Try.prog 53 #[.slice A n c, .func (.func g) #[] #[a]] w fun e w' => e = .returned (.int .i64 (idxT p l)) ∧ Below w.heap.size w w' := by
  have HRD := Lib.hid h; have HL := Lib.hid h.len; have HP := Lib.hid hp
  have hle := h.le
  obtain ⟨R, hR⟩ : ∃ R, Hid (idxT p l = R) := ⟨_, rfl⟩
  rw [hR.out]
  clear h hp
  go_enter Try.func53, Try.ntmps53
  go_wp2_with fail
  go_loopw [8] (fun i wr => ∃ k : Nat, k ≤ n ∧ i = .int .i64 k ∧ Hid (∀ y ∈ l.take k, p y = false) ∧ Hid (Below w.heap.size w wr)) (fun i _ => n - (intOf i).toNat)
  case atStart => exact ⟨0, Nat.zero_le _, rfl, by intro y hy; simp at hy, Below.refl _ _⟩
  case round =>
    obtain ⟨k, hk, rfl, hno, hbel⟩ := hrel
    by_cases hlt : k < n
    · obtain ⟨b, o, x, rfl, hb, hx, hld⟩ := HRD.out.part hlt
      obtain ⟨c0, c1, c2, c3, c4, c5, c6, c7, c8, c9, c10⟩ := hld _ hbel.out
      obtain ⟨rr, hrr, C⟩ : ∃ rr, Hid (p x = rr) ∧ Hid (Calls Try.prog g #[x.agg, a] wr fun e W' => e = .returned (.bool rr) ∧ Below wr.heap.size wr W') := ⟨_, rfl, HP.out _ hbel.out x⟩
      have HX := Lib.hid hx
      clear hld hx
      go_wp2_with fail
      refine C.out.mono ?_
      rintro e w2 ⟨rfl, b2⟩
      have B3 := Lib.hid (below_then hbel.out b2)
      clear b2 C c0 c1 c2 c3 c4 c5 c6 c7 c8 c9 c10
      cases rr with
      | true =>
        have HF : Hid ((k : Int) = R) := by show _ = _; rw [← hR.out, idxT_hit hno.out HX.out hrr.out]
        go_wp2_with fail
        go_ret
        exact ⟨ret_int HF.out, B3.out⟩
      | false =>
        have HN := Lib.hid (no_nextT hno.out HX.out hrr.out)
        go_wp2_with fail
        exact ⟨⟨k + 1, by omega, by go_num, HN, B3⟩, by simp [intOf]; omega⟩
    · have HF : Hid ((-1 : Int) = R) := by
        show _ = _
        have h1 := HL.out
        have h2 := hno.out
        rw [List.take_of_length_le (by omega)] at h2
        rw [← hR.out, idxT_miss h2]
      go_wp2_with fail
      go_ret
      exact ⟨ret_int HF.out, hbel.out⟩

set_option maxHeartbeats 3200000 in
theorem indexT2_any (g : Nat) (a b2 : Value) (p : P11 → Bool) (A : Option Addr) (n c : Nat) (l : List P11) (w : World) (eg : ∀ args w, (callFunc g args).run Try.prog w = .ok (.enter g args) w)
    (h : RdP w A n c l) (hp : ∀ W, Below w.heap.size w W → ∀ x : P11, Calls Try.prog g #[x.agg, a, b2] W fun e W' => e = .returned (.bool (p x)) ∧ Below W.heap.size W W') :
    Calls Try.prog 53 #[.slice A n c, .func (.func g) #[] #[a, b2]] w fun e w' => e = .returned (.int .i64 (idxT p l)) ∧ Below w.heap.size w w' := by
  have HRD := Lib.hid h; have HL := Lib.hid h.len; have HP := Lib.hid hp
  have hle := h.le
  obtain ⟨R, hR⟩ : ∃ R, Hid (idxT p l = R) := ⟨_, rfl⟩
  rw [hR.out]
  clear h hp
  go_enter Try.func53, Try.ntmps53
  go_wp2_with fail
  go_loopw [8] (fun i wr => ∃ k : Nat, k ≤ n ∧ i = .int .i64 k ∧ Hid (∀ y ∈ l.take k, p y = false) ∧ Hid (Below w.heap.size w wr)) (fun i _ => n - (intOf i).toNat)
  case atStart => exact ⟨0, Nat.zero_le _, rfl, by intro y hy; simp at hy, Below.refl _ _⟩
  case round =>
    obtain ⟨k, hk, rfl, hno, hbel⟩ := hrel
    by_cases hlt : k < n
    · obtain ⟨b, o, x, rfl, hb, hx, hld⟩ := HRD.out.part hlt
      obtain ⟨c0, c1, c2, c3, c4, c5, c6, c7, c8, c9, c10⟩ := hld _ hbel.out
      obtain ⟨rr, hrr, C⟩ : ∃ rr, Hid (p x = rr) ∧ Hid (Calls Try.prog g #[x.agg, a, b2] wr fun e W' => e = .returned (.bool rr) ∧ Below wr.heap.size wr W') := ⟨_, rfl, HP.out _ hbel.out x⟩
      have HX := Lib.hid hx
      clear hld hx
      go_wp2_with fail
      refine C.out.mono ?_
      rintro e w2 ⟨rfl, b2⟩
      have B3 := Lib.hid (below_then hbel.out b2)
      clear b2 C c0 c1 c2 c3 c4 c5 c6 c7 c8 c9 c10
      cases rr with
      | true =>
        have HF : Hid ((k : Int) = R) := by show _ = _; rw [← hR.out, idxT_hit hno.out HX.out hrr.out]
        go_wp2_with fail
        go_ret
        exact ⟨ret_int HF.out, B3.out⟩
      | false =>
        have HN := Lib.hid (no_nextT hno.out HX.out hrr.out)
        go_wp2_with fail
        exact ⟨⟨k + 1, by omega, by go_num, HN, B3⟩, by simp [intOf]; omega⟩
    · have HF : Hid ((-1 : Int) = R) := by
        show _ = _
        have h1 := HL.out
        have h2 := hno.out
        rw [List.take_of_length_le (by omega)] at h2
        rw [← hR.out, idxT_miss h2]
      go_wp2_with fail
      go_ret
      exact ⟨ret_int HF.out, hbel.out⟩

theorem containsT2_any (g : Nat) (a b2 : Value) (p : P11 → Bool) (A : Option Addr) (n c : Nat) (l : List P11) (w : World) (eg : ∀ args w, (callFunc g args).run Try.prog w = .ok (.enter g args) w)
    (h : RdP w A n c l) (hp : ∀ W, Below w.heap.size w W → ∀ x : P11, Calls Try.prog g #[x.agg, a, b2] W fun e W' => e = .returned (.bool (p x)) ∧ Below W.heap.size W W') :
    Calls Try.prog 45 #[.slice A n c, .func (.func g) #[] #[a, b2]] w fun e w' => e = .returned (.bool (l.any p)) ∧ Below w.heap.size w w' := by
  obtain ⟨R, hR, C⟩ : ∃ R, Hid (idxT p l = R) ∧ Hid (Calls Try.prog 53 #[.slice A n c, .func (.func g) #[] #[a, b2]] w fun e w' => e = .returned (.int .i64 R) ∧ Below w.heap.size w w') := ⟨_, rfl, indexT2_any g a b2 p A n c l w eg h hp⟩
  have HR : Hid (l.any p = decide (0 ≤ R)) := by
    show _ = _
    rw [← hR.out, idxT]
    split
    · rename_i h; rw [h]; symm; exact decide_eq_true (by omega)
    · rename_i h; rw [Bool.not_eq_true] at h; rw [h]; symm; exact decide_eq_false (by omega)
  rw [HR.out]
  clear h hp
  go_enter Try.func45, Try.ntmps45
  go_wp2_with (go_at_call 53; refine C.out.mono ?_; rintro e w2 ⟨rfl, b2⟩)
  go_ret
  exact ⟨rfl, b2⟩

theorem run_app0T {w : World} (A : Option Addr) (m c : Nat) (l : List P11) (hrd : RdP w A m c l) (hn : m ≤ 4294967296) (ty : TypeId) :
    ∃ v' w', (Builtin.append_ #[24, 24] ty #[.slice (some ⟨w.heap.size, 0, none⟩) 0 0, .slice A m c]).run Try.prog (w.alloc (.cells #[] 45)) = .ok v' w' ∧ w'.ownsRow w.heap.size 45 11 v' m (l.flatMap P11.cells) ∧ Below w.heap.size w w' := by
  have hown : (w.alloc (.cells #[] 45)).ownsRow w.heap.size 45 11 (.slice (some ⟨w.heap.size, 0, none⟩) 0 0) 0 (([] : List P11).flatMap P11.cells) := World.ownsRow_made w #[] 0 (Nat.le_refl _) (by simp [maxLen]) rfl
  obtain ⟨i0, hi0, hz0, hz1, hz2⟩ := info_parts Try.infoPart
  have hb1 : Below w.heap.size w (w.alloc (.cells #[] 45)) := below_new (Below.refl _ _) _
  by_cases hm : m = 0
  · subst hm
    obtain rfl : l = [] := List.eq_nil_of_length_eq_zero hrd.len
    refine ⟨_, _, run_append_zero _ _ ty _ i0 Try.underlying24 hi0 _ _ _ _ _ (Nat.le_refl _), hown, hb1⟩
  · obtain ⟨b, o, rfl, hb⟩ := hrd.hsize (by omega)
    obtain ⟨v', w', hr, hown', hgrow, _⟩ := run_append_own (P := Try.prog) _ w.heap.size 24 ty 45 i0 _ 11 96 Try.underlying24 hi0 hz0 hz1 hz2 rfl (by omega) _ 0 _ hown ⟨b, o, none⟩ m c (l.flatMap P11.cells) (by rw [flat_len p11len, hrd.len]) (rdg_cells p11len (hrd.alloc _))
      (fun u hu => by obtain ⟨x, _, hx⟩ := List.mem_flatMap.1 hu; exact p11one x u hx) (by simp only [maxLen]; omega) (by omega) (by simp)
    refine ⟨v', w', hr, ?_, hb1.grown hgrow (by simp) (fun k hk => (hown.lt k hk).1)⟩
    rw [Nat.zero_add] at hown'
    exact hown'

set_option maxHeartbeats 1600000 in
theorem cloneT_any (A : Option Addr) (m c : Nat) (l : List P11) (w : World) (h : RdP w A m c l) (hn : m ≤ 4294967296) :
    Calls Try.prog 27 #[.slice A m c] w fun e w' => ∃ v, e = .returned v ∧ w'.ownsRow w.heap.size 45 11 v m (l.flatMap P11.cells) ∧ Below w.heap.size w w' := by
  cases A with
  | none =>
    have hm : m = 0 := by
      rcases Nat.eq_zero_or_pos m with h0 | h0
      · exact h0
      · obtain ⟨_, _, e, _⟩ := h.hsize h0; cases e
    subst hm
    obtain rfl : l = [] := List.eq_nil_of_length_eq_zero h.len
    have EN := fun W : World => Lib.run_eql_slice_nil (P := Try.prog) W 24 45 none 0 c 0 0 Try.underlying24
    clear h hn
    go_enter Try.func27, Try.ntmps27
    go_wp2
    go_ret
    exact ⟨_, rfl, World.ownsRow_nil _ _ _ _, Below.refl _ _⟩
  | some a =>
    obtain ⟨v', w', hr, hown, hb⟩ := run_app0T (some a) m c l h hn 24
    have EN := fun W : World => Lib.run_eql_slice_nil (P := Try.prog) W 24 45 (some a) m c 0 0 Try.underlying24
    have HO := Lib.hid hown; have HB := Lib.hid hb
    clear h hn hown hb
    go_enter Try.func27, Try.ntmps27
    go_wp2_with (at_builtin; refine Lib.wpList_append_run _ rfl _ _ _ _ rfl _ _ rfl rfl _ _ hr ?_)
    go_ret
    exact ⟨_, rfl, HO.out, HB.out⟩
end Go.Proofs.Ytlgpijdemfccaaa

