/- Layer 5: what two come to, one without noughts at its end, one with another number of a device: the code. -/
import Derived.Test.YtefbgbciaiedeaaVecHas
import Derived.Test.YtefbgbciaiedeaaMem2
import Derived.Laws.MakeOwn
import Derived.Laws.CopyOwn
namespace Go.Proofs.Ytefbgbciaiedeaa
set_option maxRecDepth 100000
open Go.RowKit

theorem Try.infoInt : (Try.prog.info? 3).map (fun i => (i.zero, i.size, i.bytes)) = some (some (.int .i64 0), 1, 8) := by kernel_rfl
theorem made_vec (k : Nat) (hk : k ≤ 17179869184) (W : World) : (Instr.makeSlice 23 (.int .i64 (k : Int)) (.int .i64 (k : Int))).run Try.prog W = .ok (.slice (some ⟨W.heap.size, 0, none⟩) k k) (W.alloc (.cells (vals .i64 (List.replicate k 0)).toArray 3)) := by
  obtain ⟨i0, hi0, hz0, hz1, hz2⟩ := info_parts Try.infoInt
  have := run_make (P := Try.prog) W 23 3 i0 _ Try.underlying23 hi0 hz0 .i64 .i64 k k (by omega) (by omega) (by rw [hz2]; omega) (by omega)
  rw [hz1] at this
  have hZ : madeCells (Value.cells (.int .i64 0)) k = (vals .i64 (List.replicate k 0)).toArray := by
    apply Array.ext
    · simp [madeCells]
    · intro i h1 h2
      simp only [madeCells, Value.cells, Array.getElem_map, Array.getElem_range, List.getElem_toArray, vals, List.getElem_map, List.getElem_replicate]
      rw [show i % (#[Value.int IntKind.i64 0] : Array Value).size = 0 from Nat.mod_one i]
      rfl
  rw [← hZ]
  simpa using this
theorem made_vecs : ∃ Z : Nat → Array Value, Hid (∀ k, Z k = (vals .i64 (List.replicate k 0)).toArray) ∧ Hid (∀ k : Nat, k ≤ 17179869184 → ∀ W : World, (Instr.makeSlice 23 (.int .i64 (k : Int)) (.int .i64 (k : Int))).run Try.prog W = .ok (.slice (some ⟨W.heap.size, 0, none⟩) k k) (W.alloc (.cells (Z k) 3))) :=
  ⟨_, fun _ => rfl, fun k hk W => made_vec k hk W⟩
theorem run_uptoV {A : Option Addr} {n c m : Nat} (h : m ≤ c) (W : World) : (Instr.slice 23 (.slice A n c) none (some (.int .i64 m)) none).run Try.prog W = .ok (.slice A m c) W := by
  have hz : (sizeOf (Try.prog.elem 23)).run Try.prog W = .ok 1 W := by kernel_rfl
  have ht : Try.prog.underlying 23 = some (.slice (Try.prog.elem 23)) := by kernel_rfl
  rw [run_slice_h (P := Try.prog) (w := W) (t := 23) (a := A) (len := n) (cap := c) (ht := ht) (kh := .i64) (h := m) (h0 := by omega) (h2 := by omega), hz]
  have ha : A.map (·.add (0 * 1)) = A := by cases A <;> simp [Addr.add]
  simp only [Result.andThen, sliced, ha, Int.toNat_natCast, Nat.sub_zero, ite_self]

/-- a row of numbers in a block of the call's own -/
abbrev RowI (w : World) (g : Nat) (z : List Int) : Prop := w.heap[g]? = some (.cells (vals .i64 z).toArray 3 (0, 0))
theorem rowI_cell {w : World} {g : Nat} {z : List Int} (h : RowI w g z) {k : Nat} (hk : k < z.length) : ∃ a, w.cell? ⟨g, k, none⟩ = some a := by
  rw [cell_row h]
  exact ⟨.int .i64 z[k], by simp [vals, List.getElem?_eq_getElem hk]⟩
theorem rowI_set {w : World} {g : Nat} {z : List Int} (h : RowI w g z) (k : Nat) (x : Int) : RowI (w.setCell ⟨g, k, none⟩ (.int .i64 x)) g (z.set k x) := by
  have := set_row h k (.int .i64 x)
  rw [RowI, this]
  congr 2
  simp [vals, List.map_set]
theorem rowI_rd {w : World} {g : Nat} {z : List Int} (h : RowI w g z) {n : Nat} (hn : z.length = n) (hm : n ≤ 17179869184) : Rd w (some ⟨g, 0, none⟩) n n (vals .i64 z) := by
  refine ⟨by simp [vals, hn], Nat.le_refl _, by simp only [maxLen]; omega, fun _ => ⟨g, 0, rfl, (Array.getElem?_eq_some_iff.1 h).1, fun j hj => ?_⟩⟩
  rw [cell_row h, Nat.zero_add, List.getElem?_toArray, List.getElem?_eq_getElem hj]
theorem row_set (f : Nat → Int) {N k : Nat} (h : k < N) : (rowV k f ++ List.replicate (N - k) 0).set k (f k) = rowV (k + 1) f ++ List.replicate (N - (k + 1)) 0 := by
  rw [List.set_append_right _ _ (by rw [rowV_len]; exact Nat.le_refl _), rowV_len, Nat.sub_self, show N - k = (N - (k + 1)) + 1 by omega, List.replicate_succ, List.set_cons_zero, rowV, rowV, List.range_succ, List.map_append, List.append_assoc]
  rfl

/-- what a closure over two numbers tells -/
def TellsI (P : Program) (g : Nat) (f : Int → Int → Int) : Prop :=
  ∀ (x y : Int) (W : World), Calls P g #[.int .i64 x, .int .i64 y] W fun e W' => e = .returned (.int .i64 (f x y)) ∧ W' = W

/-- one of the calls' own, or the like, trimmed by a cut -/
theorem rd_trim {w : World} {A : Option Addr} {n c : Nat} {z : List Int} (h : Rd w A n c (vals .i64 z)) : Rd w A (endV z) c (vals .i64 (trimV z)) := by
  have hl : z.length = n := by simpa using h.len
  have he := endV_le z
  have := h.upto (k := endV z) (m := c) (by omega) (by have := h.cap; omega) (Nat.le_refl c)
  simpa [vals, trimV] using this

set_option maxHeartbeats 1600000 in
theorem vecBoth_any (fn : Nat) (f : Int → Int → Int) (A B : Option Addr) (n m c d : Nat) (a b : List Int) (w : World) (eg : ∀ args w, (callFunc fn args).run Try.prog w = .ok (.enter fn args) w) (hp : TellsI Try.prog fn f)
    (ha : Rd w A n c (vals .i64 a)) (hb : Rd w B m d (vals .i64 b)) (hn : n ≤ 4294967296) (hm : m ≤ 4294967296) :
    Calls Try.prog 41 #[.slice A n c, .slice B m d, .func (.func fn) #[] #[]] w fun e w' => ∃ A' n' c', e = .returned (.slice A' n' c') ∧ Rd w' A' n' c' (vals .i64 (bothV f a b)) ∧ Below w.heap.size w w' := by
  have hla : a.length = n := by simpa using ha.len
  have hlb : b.length = m := by simpa using hb.len
  obtain ⟨N, hN⟩ : ∃ N, Hid (max n m = N) := ⟨_, rfl⟩
  have hNl : N ≤ 4294967296 := by have := hN.out; omega
  obtain ⟨q, hq⟩ : ∃ q : Nat → Int, Hid (q = fun k => f (ofN a k) (ofN b k)) := ⟨_, rfl⟩
  have hrN : Hid (bothV f a b = trimV (rowV N q)) := by show _ = _; rw [bothV, hla, hlb, hN.out, hq.out]
  rw [hrN.out]
  have PA := Lib.hid (fun k W (hW : Below w.heap.size w W) => vecOf_any A n c a k W (ha.below hW))
  have PB := Lib.hid (fun k W (hW : Below w.heap.size w W) => vecOf_any B m d b k W (hb.below hW))
  have HP := Lib.hid hp
  obtain ⟨Z, hZ, MK⟩ := made_vecs
  have MN := MK.out n (by omega)
  have MM := MK.out m (by omega)
  clear ha hb hla hlb hrN hp hn hm
  go_enter Try.func41, Try.ntmps41
  go_wp2_with fail
  all_goals
    first
      | (have e0 : N = m := by have := hN.out; omega
         subst e0)
      | (have e0 : N = n := by have := hN.out; omega
         subst e0)
    clear MN MM hN
    have HW : Hid (RowI (w.alloc (Obj.cells (Z N) 3)) w.heap.size (rowV 0 q ++ List.replicate (N - 0) 0)) := by
      have := heap_alloc_new w (Obj.cells (Z N) 3)
      rw [hZ.out] at this
      show _ = _
      rw [hZ.out, this]
      rfl
    have HB := below_new (Below.refl w.heap.size w) (Obj.cells (Z N) 3)
    generalize w.alloc (Obj.cells (Z N) 3) = w0 at HW HB ⊢
    obtain ⟨g, hg⟩ : ∃ g, Hid (g = w.heap.size) := ⟨_, rfl⟩
    rw [← hg.out] at HW ⊢
    go_loopw [17] (fun v wr => ∃ k : Nat, v = .int .i64 k ∧ k ≤ N ∧ Hid (RowI wr g (rowV k q ++ List.replicate (N - k) 0)) ∧ Below w.heap.size w wr) (fun v _ => N - (intOf v).toNat)
    case atStart => exact ⟨0, rfl, Nat.zero_le _, HW, by first | exact HB | (rw [hg.out]; exact HB) | (rw [← hg.out]; exact HB) | (have := hg.out; subst this; exact HB)⟩
    case round =>
      clear HW HB
      obtain ⟨k, rfl, hk, HW, HB⟩ := hrel
      by_cases hlt : k < N
      · have hlz : (k : Int) < (N : Int) := by omega
        have PX := Lib.hid (fun W (hW : Below w.heap.size w W) => PA.out ((k : Int) + 1) W hW)
        have PY := Lib.hid (fun W (hW : Below w.heap.size w W) => PB.out ((k : Int) + 1) W hW)
        have PZ := Lib.hid (fun W => HP.out (ofN a k) (ofN b k) W)
        rw [ofV_nat] at PX PY
        obtain ⟨x, hx⟩ : ∃ x, Hid (q k = x) := ⟨_, rfl⟩
        have hx2 : f (ofN a k) (ofN b k) = x := by rw [← hx.out, hq.out]
        rw [hx2] at PZ
        have HS : Hid (RowI (wr.setCell ⟨g, k, none⟩ (.int .i64 x)) g (rowV (k + 1) q ++ List.replicate (N - (k + 1)) 0)) := by
          have := rowI_set HW.out k x
          rw [← hx.out, row_set q hlt] at this
          rw [← hx.out]
          exact this
        have hsB : Below w.heap.size w (wr.setCell ⟨g, k, none⟩ (.int .i64 x)) := HB.setCell (show w.heap.size ≤ g by have := hg.out; omega) _
        obtain ⟨old, hold⟩ := rowI_cell HW.out (k := k) (by rw [List.length_append, rowV_len, List.length_replicate]; omega)
        have hfr := frozen_row HW.out k
        clear hx2
        have q1 : IntKind.i64.wrap ((k : Int) + 1) = (k : Int) + 1 := wrap_is (by omega)
        go_wp2_with fail
        refine (PX.out _ HB).mono ?_
        rintro e w1 ⟨rfl, rfl⟩
        go_wp2_with fail
        refine (PY.out _ HB).mono ?_
        rintro e w2 ⟨rfl, rfl⟩
        go_wp2_with fail
        refine (PZ.out _).mono ?_
        rintro e w3 ⟨rfl, rfl⟩
        go_wp2
        exact ⟨⟨k + 1, by go_num, by omega, HS, hsB⟩, by simp [intOf]; omega⟩
      · have hlz : ¬ (k : Int) < (N : Int) := by omega
        obtain rfl : k = N := by omega
        have HR : Hid (Rd wr (some ⟨g, 0, none⟩) k k (vals .i64 (rowV k q))) := by
          have := HW.out
          rw [Nat.sub_self, List.replicate_zero, List.append_nil] at this
          exact rowI_rd this (rowV_len _ _) (by omega)
        have PE := Lib.hid (vecEnd_any (some ⟨g, 0, none⟩) k k (rowV k q) wr HR.out)
        have HT := Lib.hid (rd_trim HR.out)
        have hel : Hid (endV (rowV k q) ≤ k) := by have := endV_le (rowV k q); rw [rowV_len] at this; exact this
        obtain ⟨z, hz⟩ : ∃ z, Hid (endV (rowV k q) = z) := ⟨_, rfl⟩
        rw [hz.out] at PE HT hel
        have SL := fun W => run_uptoV (A := some ⟨g, 0, none⟩) (n := k) (c := k) (m := z) hel.out W
        clear HW
        go_wp2_with fail
        refine PE.out.mono ?_
        rintro e w1 ⟨rfl, rfl⟩
        go_wp2
        go_ret
        exact ⟨_, _, _, rfl, HT.out, HB⟩

theorem join1_any : TellsI Try.prog 42 max := by
  intro x y W
  rcases Decidable.em (x < y) with h | h
  · have hm : Hid (max x y = y) := by show _ = _; omega
    rw [hm.out]
    clear hm
    go_enter Try.func42, Try.ntmps42
    go_wp2
    go_ret
    exact ⟨rfl, rfl⟩
  · have hm : Hid (max x y = x) := by show _ = _; omega
    rw [hm.out]
    clear hm
    go_enter Try.func42, Try.ntmps42
    go_wp2
    go_ret
    exact ⟨rfl, rfl⟩
theorem meet1_any : TellsI Try.prog 43 min := by
  intro x y W
  rcases Decidable.em (y < x) with h | h
  · have hm : Hid (min x y = y) := by show _ = _; omega
    rw [hm.out]
    clear hm
    go_enter Try.func43, Try.ntmps43
    go_wp2
    go_ret
    exact ⟨rfl, rfl⟩
  · have hm : Hid (min x y = x) := by show _ = _; omega
    rw [hm.out]
    clear hm
    go_enter Try.func43, Try.ntmps43
    go_wp2
    go_ret
    exact ⟨rfl, rfl⟩
theorem Try.eg42 : ∀ args w, (callFunc 42 args).run Try.prog w = .ok (.enter 42 args) w := enters_of Try.func42 (by kernel_rfl) rfl
theorem Try.eg43 : ∀ args w, (callFunc 43 args).run Try.prog w = .ok (.enter 43 args) w := enters_of Try.func43 (by kernel_rfl) rfl

theorem vecJoin_any (A B : Option Addr) (n m c d : Nat) (a b : List Int) (w : World) (ha : Rd w A n c (vals .i64 a)) (hb : Rd w B m d (vals .i64 b)) (hn : n ≤ 4294967296) (hm : m ≤ 4294967296) :
    Calls Try.prog 24 #[.slice A n c, .slice B m d] w fun e w' => ∃ A' n' c', e = .returned (.slice A' n' c') ∧ Rd w' A' n' c' (vals .i64 (joinV a b)) ∧ Below w.heap.size w w' := by
  have P := Lib.hid (vecBoth_any _ _ A B n m c d a b w Try.eg42 join1_any ha hb hn hm)
  obtain ⟨r, hr⟩ : ∃ r, Hid (joinV a b = r) := ⟨_, rfl⟩
  rw [show bothV max a b = r from hr.out] at P
  rw [hr.out]
  clear ha hb hr hn hm
  go_enter Try.func24, Try.ntmps24
  go_wp2_with fail
  refine P.out.mono ?_
  rintro e w1 ⟨A', n', c', rfl, h1, h2⟩
  go_wp2
  go_ret
  exact ⟨_, _, _, rfl, h1, h2⟩
theorem vecMeet_any (A B : Option Addr) (n m c d : Nat) (a b : List Int) (w : World) (ha : Rd w A n c (vals .i64 a)) (hb : Rd w B m d (vals .i64 b)) (hn : n ≤ 4294967296) (hm : m ≤ 4294967296) :
    Calls Try.prog 26 #[.slice A n c, .slice B m d] w fun e w' => ∃ A' n' c', e = .returned (.slice A' n' c') ∧ Rd w' A' n' c' (vals .i64 (meetV a b)) ∧ Below w.heap.size w w' := by
  have P := Lib.hid (vecBoth_any _ _ A B n m c d a b w Try.eg43 meet1_any ha hb hn hm)
  obtain ⟨r, hr⟩ : ∃ r, Hid (meetV a b = r) := ⟨_, rfl⟩
  rw [show bothV min a b = r from hr.out] at P
  rw [hr.out]
  clear ha hb hr hn hm
  go_enter Try.func26, Try.ntmps26
  go_wp2_with fail
  refine P.out.mono ?_
  rintro e w1 ⟨A', n', c', rfl, h1, h2⟩
  go_wp2
  go_ret
  exact ⟨_, _, _, rfl, h1, h2⟩
end Go.Proofs.Ytefbgbciaiedeaa
