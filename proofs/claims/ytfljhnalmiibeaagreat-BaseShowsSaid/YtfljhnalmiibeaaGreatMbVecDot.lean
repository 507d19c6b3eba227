/- Layer 5: dots: their cells, rows of them, two rows held against each other. -/
import Derived.Test.YtfljhnalmiibeaaGreatMbVecMath
import Derived.Test.YtfljhnalmiibeaaGreatRows
import Derived.Deep.QuietTactic
import Derived.BigQuiet
import Derived.IntWalk
import Derived.Shelf.Abstract
import Derived.Test.YtfljhnalmiibeaaGreatMbStruct
import Derived.Deep.RegionHeld3
import Derived.Test.YtfljhnalmiibeaaGreatMbMem
import Derived.Laws.MakeOwn
import Derived.Laws.CopyOwn
import Derived.Lib.SliceRun
namespace Go.Proofs.YtfljhnalmiibeaaGreat
set_option maxRecDepth 100000
open Go.RowKit
/-- a dot -/
structure D2 where
  d : Int
  s : Int
deriving DecidableEq
def D2.cells (x : D2) : List Value := [.int .i64 x.d, .int .i64 x.s]
abbrev D2.agg (x : D2) : Value := .agg #[.int .i64 x.d, .int .i64 x.s]
instance : Inhabited D2 := ⟨⟨0, 0⟩⟩
theorem d2len (x : D2) : x.cells.length = 2 := rfl
abbrev RdD (w : World) (A : Option Addr) (n c : Nat) (l : List D2) : Prop := RdG D2.cells 2 w A n c l
theorem RdG.dot {w : World} {A : Option Addr} {n c : Nat} {l : List D2} (h : RdD w A n c l) {k : Nat} (hk : k < n) :
    ∃ b o x, A = some ⟨b, o, none⟩ ∧ b < w.heap.size ∧ l[k]? = some x ∧ ∀ w', Below w.heap.size w w' → w'.cell? ⟨b, o + k * 2, none⟩ = some (.int .i64 x.d) ∧ w'.cell? ⟨b, o + k * 2 + 1, none⟩ = some (.int .i64 x.s) := by
  obtain ⟨b, o, x, rfl, hb, hx, hc⟩ := h.at_ hk
  exact ⟨b, o, x, rfl, hb, hx, fun w' hw => ⟨(hw.cell hb).trans (hc 0 _ rfl), (hw.cell hb).trans (hc 1 _ rfl)⟩⟩
theorem fieldsDot : (Tryz.prog.fieldsOf 40).toList = [{ name := "Dev", type := 3, offset := 0, embedded := false, tag := "", pkgPath := "", byteOffset := 0 }, { name := "Seq", type := 3, offset := 1, embedded := false, tag := "", pkgPath := "", byteOffset := 8 }] := by kernel_rfl
theorem run_equalIn_dot (a b x y : Int) (W : World) :
    (Op.equalIn 10000 40 (.agg #[.int .i64 a, .int .i64 b]) (.agg #[.int .i64 x, .int .i64 y])).run Tryz.prog W = .ok (decide ((⟨a, b⟩ : D2) = ⟨x, y⟩)) W := by
  have ht : Tryz.prog.underlying 40 = some (.struct (Tryz.prog.fieldsOf 40)) := by kernel_rfl
  have hp : Tryz.prog.stoodInHeld 40 = false := by kernel_rfl
  have p0 : ∀ a b : Value, (part 3 #[a, b] 0).run Tryz.prog W = .ok a W := fun _ _ => rfl
  have p1 : ∀ a b : Value, (part 3 #[a, b] 1).run Tryz.prog W = .ok b W := fun _ _ => rfl
  have q0 : ∀ a b : Int, (Op.equalIn 9999 3 (.int .i64 a) (.int .i64 b)).run Tryz.prog W = .ok (a == b) W := fun a b => run_equalIn_int W 9998 _ _ _ a b Tryz.underlying3
  rw [show (10000 : Nat) = 9999 + 1 from rfl, run_equalIn_struct W 9999 _ _ _ ht hp, fieldsDot]
  generalize hP : Tryz.prog = P at p0 p1 q0 ⊢
  simp only [Op.eqFields]
  rw [if_pos (by decide), if_pos (by decide)]
  simp only [Sem.run_bind, p0, q0, Result.andThen]
  rcases Decidable.em (a = x) with rfl | hk <;> rcases Decidable.em (b = y) with rfl | hn
  all_goals simp [*, Sem.run_bind, Result.andThen]
theorem Tryz.infoDot : (Tryz.prog.info? 40).map (fun i => (i.zero, i.size, i.bytes)) = some (some (.agg #[.int .i64 0, .int .i64 0]), 2, 16) := by kernel_rfl
/-- a dot more, behind a row of the call's own -/
theorem wpList_pushD {w W0 : World} {ops : Array Oper} {rest : List Oper} {o : Oper} {a : Act} {Q : Exit → Act → World → Prop} (hgd : o.guard = none) (s x : Operand)
    (ho : o.op = .call { callee := .builtin .append, args := #[s, x], argTypes := #[35, 35] })
    (base : Nat) (v : Value) (n : Nat) (l : List D2) (u : D2) (g : Nat) (hg : w.heap.size = g) (hx : a.eval x = .slice (some ⟨g, 0, none⟩) 1 1)
    (hs : a.eval s = v) (hown : w.ownsRow base 40 2 v n (l.flatMap D2.cells)) (hn : n < 4294967296)
    (hbel : Below base W0 w) (hbase : base ≤ w.heap.size)
    (h : ∀ v' w', w'.ownsRow base 40 2 v' (n + 1) ((l ++ [u]).flatMap D2.cells) → Below base W0 w' → base ≤ w'.heap.size → wpList Tryz.prog ops Q rest (a.put o.dst v') w') :
    wpList Tryz.prog ops Q (o :: rest) a (w.alloc (.cells #[.int .i64 u.d, .int .i64 u.s] 40)) := by
  subst hg
  obtain ⟨i0, hi0, hz0, hz1, hz2⟩ := info_parts Tryz.infoDot
  refine wpList_append_own _ hgd s x 35 ho base 40 i0 _ 2 16 Tryz.underlying35 hi0 hz0 hz1 hz2 rfl (by omega) v n (l.flatMap D2.cells) hs (hown.alloc _) ⟨w.heap.size, 0, none⟩ 1 1 u.cells hx rfl ?_
    (by intro y hy; simp [D2.cells] at hy; rcases hy with rfl | rfl <;> rfl) (by simp only [maxLen]; omega) (by omega) (by simp; omega) ?_
  · intro j y hj
    have e : (⟨w.heap.size, 0, none⟩ : Addr).add j = ⟨w.heap.size, j, none⟩ := by unfold Addr.add; by_cases h0 : j = 0 <;> simp [h0]
    rw [e, cell_row (heap_alloc_new w _)]
    simpa [D2.cells] using hj
  intro v' w' hown' hgrow _
  refine h v' w' ?_ ?_ (by have := hgrow.size; simp at this; omega)
  · rw [List.flatMap_append]
    simpa using hown'
  · exact (hbel.alloc hbase _).grown hgrow (by simp; omega) (fun k hk => (hown.lt k hk).1)
/-- a new row of dots: none, with room -/
theorem made_dots : ∃ Z : Nat → Array Value, Hid (∀ k, (Z k).size = k * 2) ∧ Hid (∀ k : Nat, k ≤ 4294967296 → ∀ W : World, (Instr.makeSlice 35 (.int .i64 0) (.int .i64 (k : Int))).run Tryz.prog W = .ok (.slice (some ⟨W.heap.size, 0, none⟩) 0 k) (W.alloc (.cells (Z k) 40))) := by
  obtain ⟨i0, hi0, hz0, hz1, hz2⟩ := info_parts Tryz.infoDot
  refine ⟨fun k => madeCells (Value.cells (.agg #[.int .i64 0, .int .i64 0])) (k * 2), fun k => size_madeCells _ _, fun k hk W => ?_⟩
  have := run_make (P := Tryz.prog) W 35 40 i0 _ Tryz.underlying35 hi0 hz0 .i64 .i64 0 k (by omega) (by omega) (by rw [hz2]; omega) (by omega)
  rw [hz1] at this
  simpa using this
set_option maxHeartbeats 1600000 in
theorem refDots_any (A B : Option Addr) (n m c d : Nat) (xs ys : List D2) (w : World) (ha : RdD w A n c xs) (hb : RdD w B m d ys) :
    Calls Tryz.prog 31 #[.slice A n c, .slice B m d] w fun e w' => e = .returned (.bool (decide (xs = ys))) ∧ Quiet w w' := by
  have hn := ha.le
  have hm := hb.le
  have HLA := Lib.hid ha.len; have HLB := Lib.hid hb.len
  have HA := Lib.hid ha; have HB := Lib.hid hb
  clear ha hb
  by_cases hnm : n = m
  · subst hnm
    go_enter Tryz.func31, Tryz.ntmps31
    go_wp2
    go_loopw [5] (fun i wr => ∃ k : Nat, k ≤ n ∧ i = .int .i64 k ∧ Hid (xs.take k = ys.take k) ∧ Quiet w wr) (fun i _ => n - (intOf i).toNat)
    case atStart => exact ⟨0, Nat.zero_le _, rfl, by show _ = _; simp, Quiet.refl _⟩
    case round =>
      obtain ⟨k, hk, rfl, HTK, hq⟩ := hrel
      obtain ⟨dn, rfl⟩ := hq
      by_cases hlt : k < n
      · obtain ⟨b, o, u, rfl, _, hu, hcu⟩ := HA.out.dot hlt
        obtain ⟨b', o', v, rfl, _, hv, hcv⟩ := HB.out.dot hlt
        obtain ⟨c0, c1⟩ := hcu w (Below.refl _ _)
        obtain ⟨c2, c3⟩ := hcv w (Below.refl _ _)
        have HX := Lib.hid hu; have HY := Lib.hid hv
        obtain ⟨ud, us⟩ := u
        obtain ⟨vd, vs⟩ := v
        have EQ := fun W => run_equalIn_dot ud us vd vs W
        obtain ⟨s, hs⟩ : ∃ s, Hid (decide ((⟨ud, us⟩ : D2) = ⟨vd, vs⟩) = s) := ⟨_, rfl⟩
        rw [hs.out] at EQ
        simp only at c0 c1 c2 c3
        clear hu hv hcu hcv
        cases s with
        | true =>
          go_wp2
          go_quiet (fail)
          go_wp2
          refine ⟨⟨k + 1, by omega, by go_num, ?_, by first | exact Quiet.add _ _ | exact Quiet.add2 _ _ _⟩, by simp [intOf]; omega⟩
          show _ = _
          rw [List.take_add_one, List.take_add_one, HX.out, HY.out, HTK.out, of_decide_eq_true hs.out]
        | false =>
          go_wp2
          go_quiet (fail)
          go_wp2
          go_ret
          refine ⟨ret_bool (Eq.symm (decide_eq_false fun e => of_decide_eq_false hs.out ?_)), by first | exact Quiet.add _ _ | exact Quiet.add2 _ _ _⟩
          have h1 := HX.out; have h2 := HY.out
          rw [e, h2] at h1
          exact (Option.some.inj h1).symm
      · go_wp2
        go_ret
        refine ⟨ret_bool (Eq.symm (decide_eq_true ?_)), Quiet.add _ _⟩
        have h1 := HTK.out
        have h2 := HLA.out
        have h3 := HLB.out
        rwa [List.take_of_length_le (by omega), List.take_of_length_le (by omega)] at h1
  · have hbn : (n == m) = false := by simpa using hnm
    go_enter Tryz.func31, Tryz.ntmps31
    go_wp2
    go_ret
    refine ⟨ret_bool (Eq.symm (decide_eq_false fun e => hnm ?_)), Quiet.refl _⟩
    have h2 := HLA.out
    have h3 := HLB.out
    rw [← h2, ← h3, e]
end Go.Proofs.YtfljhnalmiibeaaGreat

