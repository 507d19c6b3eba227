/- Layer 2: what a value shows: the code. -/
import Derived.Test.YtkicjhphiibifaaDoorRows
import Derived.Test.YtkicjhphiibifaaDoorMem
import Derived.Test.YtkicjhphiibifaaDoorValMath
import Derived.Test.YtkicjhphiibifaaDoorLibs
import Derived.BigQuiet
import Derived.Deep.RegionWith
import Derived.Outline
import Derived.Deep.DeepCutAuto
import Derived.Deep.CutBlock
import Derived.Test.YtkicjhphiibifaaDoorMap
namespace Go.Proofs.YtkicjhphiibifaaDoor
set_option maxRecDepth 100000
open Go.RowKit

abbrev valCells (k n : Int) (s : ByteArray) : Obj := .cells #[.int .i64 k, .int .i64 n, .string s] 23

/-- the map that shows lays: g: the block where the value lies -/
abbrev showsMap (g : Nat) : Array MapEntry := #[{ key := .int .i64 0, val := .func (.func 37) #[] #[], born := 0 },
  { key := .int .i64 1, val := .func (.func 38) #[] #[.pointer (some ⟨g, 0, none⟩)], born := 1 }, { key := .int .i64 2, val := .func (.func 40) #[] #[.pointer (some ⟨g, 0, none⟩)], born := 2 }]

set_option maxHeartbeats 800000 in
theorem shows_any (k n : Int) (s : ByteArray) (w : World) :
    Calls Tryd.prog 26 #[.agg #[.int .i64 k, .int .i64 n, .string s]] w fun e w' => e = .returned (.map (some (w.heap.size + 1))) ∧ w' = (w.alloc (valCells k n s)).alloc (.map (showsMap w.heap.size) 3) := by
  have hmm := @run_makeMap Tryd.prog
  have hmf : ∀ (fn : Fn) (first cap : Array Value) (w : World), (Instr.makeFunc fn first cap).run Tryd.prog w = .ok (.func fn first cap) w := fun _ _ _ _ => rfl
  have hg : (w.alloc (valCells k n s)).heap.size = w.heap.size + 1 := by simp
  have p1 := run_put_last (P := Tryd.prog) (w := w.alloc (valCells k n s)) (t := 44) (a := 0) (v := .func (.func 37) #[] #[]) (es := #[]) (clock := 0) Tryd.underlying44 Tryd.underlying3 hg (by rfl)
  have p2 := run_put_last (P := Tryd.prog) (w := w.alloc (valCells k n s)) (t := 44) (a := 1) (v := .func (.func 38) #[] #[.pointer (some ⟨w.heap.size, 0, none⟩)]) (es := #[{ key := .int .i64 0, val := .func (.func 37) #[] #[], born := 0 }]) (clock := 1) Tryd.underlying44 Tryd.underlying3 hg (by rw [findNow_cons, if_neg (by decide)]; rfl)
  have p3 := run_put_last (P := Tryd.prog) (w := w.alloc (valCells k n s)) (t := 44) (a := 2) (v := .func (.func 40) #[] #[.pointer (some ⟨w.heap.size, 0, none⟩)])
    (es := #[{ key := .int .i64 0, val := .func (.func 37) #[] #[], born := 0 }, { key := .int .i64 1, val := .func (.func 38) #[] #[.pointer (some ⟨w.heap.size, 0, none⟩)], born := 1 }]) (clock := 2) Tryd.underlying44 Tryd.underlying3 hg (by rw [findNow_cons, if_neg (by decide), findNow_cons, if_neg (by decide)]; rfl)
  simp only [List.push_toArray, List.cons_append, List.nil_append, Nat.zero_add, Nat.reduceAdd] at p1 p2 p3
  clear hg
  go_enter Tryd.func26, Tryd.ntmps26
  go_wp2
  all_goals go_ret
  all_goals exact ⟨rfl, rfl⟩

/-- the bytes that a value shows, as a text -/
def showB (k n : Int) (s : ByteArray) : ByteArray := ⟨(showZ k n s.data.toList).toArray⟩

theorem shows_at (k n : Int) (s : ByteArray) (w : World) : (((w.alloc (valCells k n s)).alloc (valCells k n s)).alloc (.map (showsMap (w.heap.size + 1)) 3)).drew.heap[w.heap.size + 1 + 1]? = some (.map (showsMap (w.heap.size + 1)) 3) := by
  have h := heap_alloc_new ((w.alloc (valCells k n s)).alloc (valCells k n s)) (.map (showsMap (w.heap.size + 1)) 3)
  simp only [World.size_alloc] at h
  exact h

theorem cell_last (A : World) (xs : Array Value) (t : TypeId) (j : Nat) : (A.alloc (.cells xs t)).cell? ⟨A.heap.size, j, none⟩ = xs[j]? := by
  have h := heap_alloc_new A (.cells xs t)
  simp only [World.cell?, h]
  rfl

theorem shows_cell (k n : Int) (s : ByteArray) (w : World) (j : Nat) : (((w.alloc (valCells k n s)).alloc (valCells k n s)).alloc (.map (showsMap (w.heap.size + 1)) 3)).drew.cell? ⟨w.heap.size + 1, j, none⟩ = #[Value.int .i64 k, .int .i64 n, .string s][j]? := by
  have b : Below ((w.alloc (valCells k n s)).alloc (valCells k n s)).heap.size ((w.alloc (valCells k n s)).alloc (valCells k n s)) (((w.alloc (valCells k n s)).alloc (valCells k n s)).alloc (.map (showsMap (w.heap.size + 1)) 3)).drew := (below_new (Below.refl _ _) _).drew
  have e : (w.alloc (valCells k n s)).heap.size = w.heap.size + 1 := World.size_alloc ..
  rw [b.cell (show w.heap.size + 1 < _ by simp), ← e, cell_last]

theorem zeroFunc (w : World) : (zeroValue 42).run Tryd.prog w = .ok .nilFunc w := by kernel_rfl

theorem show2 (n : Int) (s : ByteArray) : (⟨#[39]⟩ : ByteArray) ++ (⟨(Lib.replaceAll s.data.toList [39] [39, 39]).toArray⟩ : ByteArray) ++ (⟨#[39]⟩ : ByteArray) = showB 2 n s := by
  rw [quo_is]
  apply ByteArray.ext
  simp [showB, showZ]

theorem showInt_any (b : Nat) (n : Int) (w : World) (h0 : -9223372036854775808 ≤ n) (h1 : n ≤ 9223372036854775807) (hc : w.cell? ⟨b, 1, none⟩ = some (.int .i64 n)) (v : Vars w) :
    Calls Tryd.prog 38 #[.pointer (some ⟨b, 0, none⟩)] w fun e w' => e = .returned (.string ⟨(Lib.itoa n).toArray⟩) ∧ Below w.heap.size w w' := by
  have V := Lib.hid v; clear v
  go_enter Tryd.func38, Tryd.ntmps38
  go_wp2_with fail
  refine (itoa_any n _ h0 h1 V.out).mono ?_
  rintro e w5 ⟨rfl, b5⟩
  go_wp2
  go_ret
  exact ⟨rfl, b5⟩

theorem showText_any (b : Nat) (n : Int) (s : ByteArray) (w : World) (hs : s.size ≤ 2147483600) (hc : w.cell? ⟨b, 2, none⟩ = some (.string s)) (v : Vars w) :
    Calls Tryd.prog 40 #[.pointer (some ⟨b, 0, none⟩)] w fun e w' => e = .returned (.string (showB 2 n s)) ∧ Below w.heap.size w w' := by
  obtain ⟨R, hq, h2, RA⟩ : ∃ R : ByteArray, R.size ≤ 4294967200 ∧ Hid ((⟨#[39]⟩ : ByteArray) ++ R ++ (⟨#[39]⟩ : ByteArray) = showB 2 n s) ∧ Hid (∀ W, Vars W →
      Calls Tryd.prog 41 #[.string s, .string ⟨#[39]⟩, .string ⟨#[39, 39]⟩] W fun e w' => e = .returned (.string R) ∧ Below W.heap.size W w') := by
    refine ⟨⟨(Lib.replaceAll s.data.toList [39] [39, 39]).toArray⟩, ?_, Lib.hid (show2 n s), Lib.hid fun W v => replace_any s ⟨#[39]⟩ ⟨#[39, 39]⟩ W (by omega) (by decide) (by decide) v⟩
    rw [quo_is]
    have h := quo_len s.data.toList
    have h2 : s.data.toList.length = s.size := rfl
    show (quo s.data.toList).toArray.size ≤ _
    rw [List.size_toArray]; omega
  have s1 : ∀ W, (Op.stringOp .add (⟨#[39]⟩ : ByteArray) R).run Tryd.prog W = .ok (.string ((⟨#[39]⟩ : ByteArray) ++ R)) W := fun W => run_string_add_sum W _ _ (by have : ByteArray.size ⟨#[39]⟩ = 1 := rfl; omega)
  have s2 : ∀ W, (Op.stringOp .add ((⟨#[39]⟩ : ByteArray) ++ R) (⟨#[39]⟩ : ByteArray)).run Tryd.prog W = .ok (.string ((⟨#[39]⟩ : ByteArray) ++ R ++ (⟨#[39]⟩ : ByteArray))) W := fun W => run_string_add_sum W _ _ (by
    have : ByteArray.size ⟨#[39]⟩ = 1 := rfl
    rw [ByteArray.size_append]; omega)
  have V := Lib.hid v; clear v
  go_enter Tryd.func40, Tryd.ntmps40
  go_wp2_with fail
  refine (RA.out _ V.out).mono ?_
  rintro e w5 ⟨rfl, b5⟩
  go_wp2
  go_ret
  exact ⟨by rw [← h2.out]; rfl, b5⟩

set_option maxHeartbeats 3200000 in
theorem show_any (k n : Int) (s : ByteArray) (w : World) (h0 : -9223372036854775808 ≤ n) (h1 : n ≤ 9223372036854775807) (hs : s.size ≤ 2147483600) (v : Vars w) :
    Calls Tryd.prog 16 #[.agg #[.int .i64 k, .int .i64 n, .string s]] w fun e w' => e = .returned (.string (showB k n s)) ∧ Below w.heap.size w w' := by
  have V := Lib.hid v; clear v
  have hat := shows_at k n s w
  have B : Below w.heap.size w (((w.alloc (valCells k n s)).alloc (valCells k n s)).alloc (.map (showsMap (w.heap.size + 1)) 3)).drew := (below_new (below_new (below_new (Below.refl _ _) _) _) _).drew
  rcases Decidable.em (k = 0) with rfl | hk0
  · have hl := run_look_hit (P := Tryd.prog) (t := 44) (a := 0) (i := 0) (v := .func (.func 37) #[] #[]) Tryd.underlying44 Tryd.underlying3 hat (by simp [findNow_cons])
    clear hat
    go_enter Tryd.func16, Tryd.ntmps16
    go_wp2_with fail
    go_region_with (first
      | (go_at_call 26; refine (shows_any _ _ _ _).mono ?_; rintro e w1 ⟨rfl, rfl⟩))
    go_wp2
    all_goals go_ret
    all_goals exact ⟨rfl, B⟩
  rcases Decidable.em (k = 1) with rfl | hk1
  · have hl := run_look_hit (P := Tryd.prog) (t := 44) (a := 1) (i := 1) (v := .func (.func 38) #[] #[.pointer (some ⟨w.heap.size + 1, 0, none⟩)]) Tryd.underlying44 Tryd.underlying3 hat (by simp [findNow_cons])
    clear hat
    go_enter Tryd.func16, Tryd.ntmps16
    go_wp2_with fail
    go_region_with (first
      | (go_at_call 26; refine (shows_any _ _ _ _).mono ?_; rintro e w1 ⟨rfl, rfl⟩))
    all_goals
      go_wp2_with fail
      refine (showInt_any _ n _ h0 h1 (shows_cell 1 n s w 1) (V.out.below B)).mono ?_
      rintro e w5 ⟨rfl, b5⟩
      go_wp2
      go_ret
      exact ⟨rfl, below_then B b5⟩
  rcases Decidable.em (k = 2) with rfl | hk2
  · have hl := run_look_hit (P := Tryd.prog) (t := 44) (a := 2) (i := 2) (v := .func (.func 40) #[] #[.pointer (some ⟨w.heap.size + 1, 0, none⟩)]) Tryd.underlying44 Tryd.underlying3 hat (by simp [findNow_cons])
    clear hat
    go_enter Tryd.func16, Tryd.ntmps16
    go_wp2_with fail
    go_region_with (first
      | (go_at_call 26; refine (shows_any _ _ _ _).mono ?_; rintro e w1 ⟨rfl, rfl⟩))
    all_goals
      go_wp2_with fail
      refine (showText_any _ n s _ hs (shows_cell 2 n s w 2) (V.out.below B)).mono ?_
      rintro e w5 ⟨rfl, b5⟩
      go_wp2
      go_ret
      exact ⟨rfl, below_then B b5⟩
  · have hl := run_look_miss (P := Tryd.prog) (t := 44) (a := k) Tryd.underlying44 Tryd.underlying3 (zeroFunc _) hat (by simp [findNow_cons, findNow_nil, hk0, hk1, hk2])
    clear hat
    go_enter Tryd.func16, Tryd.ntmps16
    go_wp2_with fail
    go_region_with (first
      | (go_at_call 26; refine (shows_any _ _ _ _).mono ?_; rintro e w1 ⟨rfl, rfl⟩))
    go_wp2
    all_goals go_ret
    all_goals exact ⟨by simp [showB, showZ, hk0, hk1, hk2], B⟩
end Go.Proofs.YtkicjhphiibifaaDoor
