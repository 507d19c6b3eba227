/- Several texts laid together: BasClone, QuietB. -/
import Derived.Test.YtfljhnalmiibeaaGreatMbMulCmp
import Derived.Test.YtfljhnalmiibeaaGreatMbMem
import Derived.Deep.QuietTactic
import Derived.Deep.RegionHeld3
import Derived.BigQuiet
namespace Go.Proofs.YtfljhnalmiibeaaGreat
set_option maxRecDepth 100000
open Go.RowKit
/-- what reads as parts, put behind a row of parts of the call's own -/
theorem run_appPD {w W0 : World} (base : Nat) (v : Value) (n : Nat) (l : List D2) (A : Option Addr) (m c : Nat) (news : List D2)
    (hown : w.ownsRow base 40 2 v n (l.flatMap D2.cells)) (hrd : RdG D2.cells 2 w A m c news) (hn : n + m ≤ 4294967296) (hbel : Below base W0 w) (hbase : base ≤ w.heap.size) (ty : TypeId) :
    ∃ v' w', (Builtin.append_ #[35, 35] ty #[v, .slice A m c]).run Tryz.prog w = .ok v' w' ∧ w'.ownsRow base 40 2 v' (n + m) ((l ++ news).flatMap D2.cells) ∧ Below base W0 w' ∧ base ≤ w'.heap.size := by
  obtain ⟨i0, hi0, hz0, hz1, hz2⟩ := info_parts Tryz.infoDot
  by_cases hm : m = 0
  · subst hm
    have he : news = [] := List.eq_nil_of_length_eq_zero hrd.len
    subst he
    refine ⟨v, w, ?_, by simpa using hown, hbel, hbase⟩
    rcases hown.2 with ⟨rfl, rfl⟩ | ⟨g, cap, cur, rfl, _, _, hnc, _⟩
    · exact run_append_zero w 35 ty 40 i0 Tryz.underlying35 hi0 _ _ _ _ _ (Nat.le_refl _)
    · exact run_append_zero w 35 ty 40 i0 Tryz.underlying35 hi0 _ _ _ _ _ hnc
  · obtain ⟨b, o, rfl, hb⟩ := hrd.hsize (by omega)
    obtain ⟨v', w', hr, hown', hgrow, _⟩ := run_append_own (P := Tryz.prog) w base 35 ty 40 i0 _ 2 16 Tryz.underlying35 hi0 hz0 hz1 hz2 rfl (by omega) v n (l.flatMap D2.cells) hown ⟨b, o, none⟩ m c (news.flatMap D2.cells) (by rw [flat_len d2len, hrd.len]) (rdg_cells d2len hrd)
      (fun u hu => by rw [List.mem_flatMap] at hu; obtain ⟨p, _, hp⟩ := hu; exact d2one p u hp) (by simp only [maxLen]; omega) (by omega) hbase
    exact ⟨v', w', hr, by rw [List.flatMap_append]; exact hown', hbel.grown hgrow hbase (fun k hk => (hown.lt k hk).1), by have := hgrow.size; omega⟩
theorem run_app0PD {w : World} (A : Option Addr) (m c : Nat) (l : List D2) (hrd : RdG D2.cells 2 w A m c l) (hn : m ≤ 4294967296) (ty : TypeId) :
    ∃ v' w', (Builtin.append_ #[35, 35] ty #[.slice (some ⟨w.heap.size, 0, none⟩) 0 0, .slice A m c]).run Tryz.prog (w.alloc (.cells #[] 40)) = .ok v' w' ∧ w'.ownsRow w.heap.size 40 2 v' m (l.flatMap D2.cells) ∧ Below w.heap.size w w' := by
  have hown : (w.alloc (.cells #[] 40)).ownsRow w.heap.size 40 2 (.slice (some ⟨w.heap.size, 0, none⟩) 0 0) 0 (([] : List D2).flatMap D2.cells) := World.ownsRow_made w #[] 0 (Nat.le_refl _) (by simp [maxLen]) rfl
  obtain ⟨v', w', h1, h2, h3, _⟩ := run_appPD (W0 := w) w.heap.size _ 0 [] A m c l hown (hrd.alloc _) (by omega) (below_new (Below.refl _ _) _) (by simp) ty
  rw [Nat.zero_add, List.nil_append] at h2
  exact ⟨v', w', h1, h2, h3⟩
set_option maxHeartbeats 1600000 in
theorem cloneD_any (A : Option Addr) (m c : Nat) (l : List D2) (w : World) (h : RdG D2.cells 2 w A m c l) (hn : m ≤ 4294967296) :
    Calls Tryz.prog 68 #[.slice A m c] w fun e w' => ∃ v, e = .returned v ∧ w'.ownsRow w.heap.size 40 2 v m (l.flatMap D2.cells) ∧ Below w.heap.size w w' := by
  cases A with
  | none =>
    have hm : m = 0 := by
      rcases Nat.eq_zero_or_pos m with h0 | h0
      · exact h0
      · obtain ⟨_, _, e, _⟩ := h.hsize h0; cases e
    subst hm
    obtain rfl : l = [] := List.eq_nil_of_length_eq_zero h.len
    have EN := fun W : World => Lib.run_eql_slice_nil (P := Tryz.prog) W 35 40 none 0 c 0 0 Tryz.underlying35
    clear h hn
    go_enter Tryz.func68, Tryz.ntmps68
    go_wp2
    go_ret
    exact ⟨.slice none 0 0, rfl, ⟨rfl, .inl ⟨rfl, rfl⟩⟩, Below.refl _ _⟩
  | some a =>
    obtain ⟨v', w', hr, hown, hb⟩ := run_app0PD (some a) m c l h hn 35
    have EN := fun W : World => Lib.run_eql_slice_nil (P := Tryz.prog) W 35 40 (some a) m c 0 0 Tryz.underlying35
    have HO := Lib.hid hown; have HB := Lib.hid hb
    clear h hn hown hb
    go_enter Tryz.func68, Tryz.ntmps68
    go_wp2_with (at_builtin; refine Lib.wpList_append_run _ rfl _ _ _ _ rfl _ _ rfl rfl _ _ hr ?_)
    go_ret
    exact ⟨v', rfl, HO.out, HB.out⟩
/-- what reads as parts, put behind a row of parts of the call's own -/
theorem run_appPC {w W0 : World} (base : Nat) (v : Value) (n : Nat) (l : List C5) (A : Option Addr) (m c : Nat) (news : List C5)
    (hown : w.ownsRow base 72 5 v n (l.flatMap C5.cells)) (hrd : RdG C5.cells 5 w A m c news) (hn : n + m ≤ 4294967296) (hbel : Below base W0 w) (hbase : base ≤ w.heap.size) (ty : TypeId) :
    ∃ v' w', (Builtin.append_ #[34, 34] ty #[v, .slice A m c]).run Tryz.prog w = .ok v' w' ∧ w'.ownsRow base 72 5 v' (n + m) ((l ++ news).flatMap C5.cells) ∧ Below base W0 w' ∧ base ≤ w'.heap.size := by
  obtain ⟨i0, hi0, hz0, hz1, hz2⟩ := info_parts Tryz.infoCell13
  by_cases hm : m = 0
  · subst hm
    have he : news = [] := List.eq_nil_of_length_eq_zero hrd.len
    subst he
    refine ⟨v, w, ?_, by simpa using hown, hbel, hbase⟩
    rcases hown.2 with ⟨rfl, rfl⟩ | ⟨g, cap, cur, rfl, _, _, hnc, _⟩
    · exact run_append_zero w 34 ty 72 i0 Tryz.underlying34 hi0 _ _ _ _ _ (Nat.le_refl _)
    · exact run_append_zero w 34 ty 72 i0 Tryz.underlying34 hi0 _ _ _ _ _ hnc
  · obtain ⟨b, o, rfl, hb⟩ := hrd.hsize (by omega)
    obtain ⟨v', w', hr, hown', hgrow, _⟩ := run_append_own (P := Tryz.prog) w base 34 ty 72 i0 _ 5 64 Tryz.underlying34 hi0 hz0 hz1 hz2 rfl (by omega) v n (l.flatMap C5.cells) hown ⟨b, o, none⟩ m c (news.flatMap C5.cells) (by rw [flat_len c5len, hrd.len]) (rdg_cells c5len hrd)
      (fun u hu => by rw [List.mem_flatMap] at hu; obtain ⟨p, _, hp⟩ := hu; exact c5one p u hp) (by simp only [maxLen]; omega) (by omega) hbase
    exact ⟨v', w', hr, by rw [List.flatMap_append]; exact hown', hbel.grown hgrow hbase (fun k hk => (hown.lt k hk).1), by have := hgrow.size; omega⟩
theorem run_app0PC {w : World} (A : Option Addr) (m c : Nat) (l : List C5) (hrd : RdG C5.cells 5 w A m c l) (hn : m ≤ 4294967296) (ty : TypeId) :
    ∃ v' w', (Builtin.append_ #[34, 34] ty #[.slice (some ⟨w.heap.size, 0, none⟩) 0 0, .slice A m c]).run Tryz.prog (w.alloc (.cells #[] 72)) = .ok v' w' ∧ w'.ownsRow w.heap.size 72 5 v' m (l.flatMap C5.cells) ∧ Below w.heap.size w w' := by
  have hown : (w.alloc (.cells #[] 72)).ownsRow w.heap.size 72 5 (.slice (some ⟨w.heap.size, 0, none⟩) 0 0) 0 (([] : List C5).flatMap C5.cells) := World.ownsRow_made w #[] 0 (Nat.le_refl _) (by simp [maxLen]) rfl
  obtain ⟨v', w', h1, h2, h3, _⟩ := run_appPC (W0 := w) w.heap.size _ 0 [] A m c l hown (hrd.alloc _) (by omega) (below_new (Below.refl _ _) _) (by simp) ty
  rw [Nat.zero_add, List.nil_append] at h2
  exact ⟨v', w', h1, h2, h3⟩
set_option maxHeartbeats 1600000 in
theorem cloneC_any (A : Option Addr) (m c : Nat) (l : List C5) (w : World) (h : RdG C5.cells 5 w A m c l) (hn : m ≤ 4294967296) :
    Calls Tryz.prog 69 #[.slice A m c] w fun e w' => ∃ v, e = .returned v ∧ w'.ownsRow w.heap.size 72 5 v m (l.flatMap C5.cells) ∧ Below w.heap.size w w' := by
  cases A with
  | none =>
    have hm : m = 0 := by
      rcases Nat.eq_zero_or_pos m with h0 | h0
      · exact h0
      · obtain ⟨_, _, e, _⟩ := h.hsize h0; cases e
    subst hm
    obtain rfl : l = [] := List.eq_nil_of_length_eq_zero h.len
    have EN := fun W : World => Lib.run_eql_slice_nil (P := Tryz.prog) W 34 72 none 0 c 0 0 Tryz.underlying34
    clear h hn
    go_enter Tryz.func69, Tryz.ntmps69
    go_wp2
    go_ret
    exact ⟨.slice none 0 0, rfl, ⟨rfl, .inl ⟨rfl, rfl⟩⟩, Below.refl _ _⟩
  | some a =>
    obtain ⟨v', w', hr, hown, hb⟩ := run_app0PC (some a) m c l h hn 34
    have EN := fun W : World => Lib.run_eql_slice_nil (P := Tryz.prog) W 34 72 (some a) m c 0 0 Tryz.underlying34
    have HO := Lib.hid hown; have HB := Lib.hid hb
    clear h hn hown hb
    go_enter Tryz.func69, Tryz.ntmps69
    go_wp2_with (at_builtin; refine Lib.wpList_append_run _ rfl _ _ _ _ rfl _ _ rfl rfl _ _ hr ?_)
    go_ret
    exact ⟨v', rfl, HO.out, HB.out⟩
/-- what reads as parts, put behind a row of parts of the call's own -/
theorem run_appPQ {w W0 : World} (base : Nat) (v : Value) (n : Nat) (l : List P11) (A : Option Addr) (m c : Nat) (news : List P11)
    (hown : w.ownsRow base 105 11 v n (l.flatMap P11.cells)) (hrd : RdG P11.cells 11 w A m c news) (hn : n + m ≤ 4294967296) (hbel : Below base W0 w) (hbase : base ≤ w.heap.size) (ty : TypeId) :
    ∃ v' w', (Builtin.append_ #[70, 70] ty #[v, .slice A m c]).run Tryz.prog w = .ok v' w' ∧ w'.ownsRow base 105 11 v' (n + m) ((l ++ news).flatMap P11.cells) ∧ Below base W0 w' ∧ base ≤ w'.heap.size := by
  obtain ⟨i0, hi0, hz0, hz1, hz2⟩ := info_parts Tryz.infoPart
  by_cases hm : m = 0
  · subst hm
    have he : news = [] := List.eq_nil_of_length_eq_zero hrd.len
    subst he
    refine ⟨v, w, ?_, by simpa using hown, hbel, hbase⟩
    rcases hown.2 with ⟨rfl, rfl⟩ | ⟨g, cap, cur, rfl, _, _, hnc, _⟩
    · exact run_append_zero w 70 ty 105 i0 Tryz.underlying70 hi0 _ _ _ _ _ (Nat.le_refl _)
    · exact run_append_zero w 70 ty 105 i0 Tryz.underlying70 hi0 _ _ _ _ _ hnc
  · obtain ⟨b, o, rfl, hb⟩ := hrd.hsize (by omega)
    obtain ⟨v', w', hr, hown', hgrow, _⟩ := run_append_own (P := Tryz.prog) w base 70 ty 105 i0 _ 11 96 Tryz.underlying70 hi0 hz0 hz1 hz2 rfl (by omega) v n (l.flatMap P11.cells) hown ⟨b, o, none⟩ m c (news.flatMap P11.cells) (by rw [flat_len p11len, hrd.len]) (rdg_cells p11len hrd)
      (fun u hu => by rw [List.mem_flatMap] at hu; obtain ⟨p, _, hp⟩ := hu; exact p11one p u hp) (by simp only [maxLen]; omega) (by omega) hbase
    exact ⟨v', w', hr, by rw [List.flatMap_append]; exact hown', hbel.grown hgrow hbase (fun k hk => (hown.lt k hk).1), by have := hgrow.size; omega⟩
theorem run_app0PQ {w : World} (A : Option Addr) (m c : Nat) (l : List P11) (hrd : RdG P11.cells 11 w A m c l) (hn : m ≤ 4294967296) (ty : TypeId) :
    ∃ v' w', (Builtin.append_ #[70, 70] ty #[.slice (some ⟨w.heap.size, 0, none⟩) 0 0, .slice A m c]).run Tryz.prog (w.alloc (.cells #[] 105)) = .ok v' w' ∧ w'.ownsRow w.heap.size 105 11 v' m (l.flatMap P11.cells) ∧ Below w.heap.size w w' := by
  have hown : (w.alloc (.cells #[] 105)).ownsRow w.heap.size 105 11 (.slice (some ⟨w.heap.size, 0, none⟩) 0 0) 0 (([] : List P11).flatMap P11.cells) := World.ownsRow_made w #[] 0 (Nat.le_refl _) (by simp [maxLen]) rfl
  obtain ⟨v', w', h1, h2, h3, _⟩ := run_appPQ (W0 := w) w.heap.size _ 0 [] A m c l hown (hrd.alloc _) (by omega) (below_new (Below.refl _ _) _) (by simp) ty
  rw [Nat.zero_add, List.nil_append] at h2
  exact ⟨v', w', h1, h2, h3⟩
set_option maxHeartbeats 1600000 in
theorem cloneQ_any (A : Option Addr) (m c : Nat) (l : List P11) (w : World) (h : RdG P11.cells 11 w A m c l) (hn : m ≤ 4294967296) :
    Calls Tryz.prog 70 #[.slice A m c] w fun e w' => ∃ v, e = .returned v ∧ w'.ownsRow w.heap.size 105 11 v m (l.flatMap P11.cells) ∧ Below w.heap.size w w' := by
  cases A with
  | none =>
    have hm : m = 0 := by
      rcases Nat.eq_zero_or_pos m with h0 | h0
      · exact h0
      · obtain ⟨_, _, e, _⟩ := h.hsize h0; cases e
    subst hm
    obtain rfl : l = [] := List.eq_nil_of_length_eq_zero h.len
    have EN := fun W : World => Lib.run_eql_slice_nil (P := Tryz.prog) W 70 105 none 0 c 0 0 Tryz.underlying70
    clear h hn
    go_enter Tryz.func70, Tryz.ntmps70
    go_wp2
    go_ret
    exact ⟨.slice none 0 0, rfl, ⟨rfl, .inl ⟨rfl, rfl⟩⟩, Below.refl _ _⟩
  | some a =>
    obtain ⟨v', w', hr, hown, hb⟩ := run_app0PQ (some a) m c l h hn 70
    have EN := fun W : World => Lib.run_eql_slice_nil (P := Tryz.prog) W 70 105 (some a) m c 0 0 Tryz.underlying70
    have HO := Lib.hid hown; have HB := Lib.hid hb
    clear h hn hown hb
    go_enter Tryz.func70, Tryz.ntmps70
    go_wp2_with (at_builtin; refine Lib.wpList_append_run _ rfl _ _ _ _ rfl _ _ rfl rfl _ _ hr ?_)
    go_ret
    exact ⟨v', rfl, HO.out, HB.out⟩
/-- what reads as parts, put behind a row of parts of the call's own -/
theorem run_appPDt {w W0 : World} (base : Nat) (v : Value) (n : Nat) (l : List SlR) (A : Option Addr) (m c : Nat) (news : List SlR)
    (hown : w.ownsRow base 57 1 v n (l.flatMap SlR.cells)) (hrd : RdG SlR.cells 1 w A m c news) (hn : n + m ≤ 4294967296) (hbel : Below base W0 w) (hbase : base ≤ w.heap.size) (ty : TypeId) :
    ∃ v' w', (Builtin.append_ #[25, 25] ty #[v, .slice A m c]).run Tryz.prog w = .ok v' w' ∧ w'.ownsRow base 57 1 v' (n + m) ((l ++ news).flatMap SlR.cells) ∧ Below base W0 w' ∧ base ≤ w'.heap.size := by
  obtain ⟨i0, hi0, hz0, hz1, hz2⟩ := info_parts Tryz.infoData
  by_cases hm : m = 0
  · subst hm
    have he : news = [] := List.eq_nil_of_length_eq_zero hrd.len
    subst he
    refine ⟨v, w, ?_, by simpa using hown, hbel, hbase⟩
    rcases hown.2 with ⟨rfl, rfl⟩ | ⟨g, cap, cur, rfl, _, _, hnc, _⟩
    · exact run_append_zero w 25 ty 57 i0 Tryz.underlying25 hi0 _ _ _ _ _ (Nat.le_refl _)
    · exact run_append_zero w 25 ty 57 i0 Tryz.underlying25 hi0 _ _ _ _ _ hnc
  · obtain ⟨b, o, rfl, hb⟩ := hrd.hsize (by omega)
    obtain ⟨v', w', hr, hown', hgrow, _⟩ := run_append_own (P := Tryz.prog) w base 25 ty 57 i0 _ 1 24 Tryz.underlying25 hi0 hz0 hz1 hz2 rfl (by omega) v n (l.flatMap SlR.cells) hown ⟨b, o, none⟩ m c (news.flatMap SlR.cells) (by rw [flat_len slRlen, hrd.len]) (rdg_cells slRlen hrd)
      (fun u hu => by rw [List.mem_flatMap] at hu; obtain ⟨p, _, hp⟩ := hu; exact slRone p u hp) (by simp only [maxLen]; omega) (by omega) hbase
    exact ⟨v', w', hr, by rw [List.flatMap_append]; exact hown', hbel.grown hgrow hbase (fun k hk => (hown.lt k hk).1), by have := hgrow.size; omega⟩
theorem run_app0PDt {w : World} (A : Option Addr) (m c : Nat) (l : List SlR) (hrd : RdG SlR.cells 1 w A m c l) (hn : m ≤ 4294967296) (ty : TypeId) :
    ∃ v' w', (Builtin.append_ #[25, 25] ty #[.slice (some ⟨w.heap.size, 0, none⟩) 0 0, .slice A m c]).run Tryz.prog (w.alloc (.cells #[] 57)) = .ok v' w' ∧ w'.ownsRow w.heap.size 57 1 v' m (l.flatMap SlR.cells) ∧ Below w.heap.size w w' := by
  have hown : (w.alloc (.cells #[] 57)).ownsRow w.heap.size 57 1 (.slice (some ⟨w.heap.size, 0, none⟩) 0 0) 0 (([] : List SlR).flatMap SlR.cells) := World.ownsRow_made w #[] 0 (Nat.le_refl _) (by simp [maxLen]) rfl
  obtain ⟨v', w', h1, h2, h3, _⟩ := run_appPDt (W0 := w) w.heap.size _ 0 [] A m c l hown (hrd.alloc _) (by omega) (below_new (Below.refl _ _) _) (by simp) ty
  rw [Nat.zero_add, List.nil_append] at h2
  exact ⟨v', w', h1, h2, h3⟩
set_option maxHeartbeats 1600000 in
theorem cloneDt_any (A : Option Addr) (m c : Nat) (l : List SlR) (w : World) (h : RdG SlR.cells 1 w A m c l) (hn : m ≤ 4294967296) :
    Calls Tryz.prog 63 #[.slice A m c] w fun e w' => ∃ v, e = .returned v ∧ w'.ownsRow w.heap.size 57 1 v m (l.flatMap SlR.cells) ∧ Below w.heap.size w w' := by
  cases A with
  | none =>
    have hm : m = 0 := by
      rcases Nat.eq_zero_or_pos m with h0 | h0
      · exact h0
      · obtain ⟨_, _, e, _⟩ := h.hsize h0; cases e
    subst hm
    obtain rfl : l = [] := List.eq_nil_of_length_eq_zero h.len
    have EN := fun W : World => Lib.run_eql_slice_nil (P := Tryz.prog) W 25 57 none 0 c 0 0 Tryz.underlying25
    clear h hn
    go_enter Tryz.func63, Tryz.ntmps63
    go_wp2
    go_ret
    exact ⟨.slice none 0 0, rfl, ⟨rfl, .inl ⟨rfl, rfl⟩⟩, Below.refl _ _⟩
  | some a =>
    obtain ⟨v', w', hr, hown, hb⟩ := run_app0PDt (some a) m c l h hn 25
    have EN := fun W : World => Lib.run_eql_slice_nil (P := Tryz.prog) W 25 57 (some a) m c 0 0 Tryz.underlying25
    have HO := Lib.hid hown; have HB := Lib.hid hb
    clear h hn hown hb
    go_enter Tryz.func63, Tryz.ntmps63
    go_wp2_with (at_builtin; refine Lib.wpList_append_run _ rfl _ _ _ _ rfl _ _ rfl rfl _ _ hr ?_)
    go_ret
    exact ⟨v', rfl, HO.out, HB.out⟩
end Go.Proofs.YtfljhnalmiibeaaGreat

namespace Go.Proofs.YtfljhnalmiibeaaGreat
set_option maxRecDepth 100000
open Go.RowKit
/-- a world behind w -/
structure BelowOf (w : World) where
  W : World
  h : Below w.heap.size w W
instance (w : World) : Inhabited (BelowOf w) := ⟨⟨w, Below.refl _ _⟩⟩
theorem wp_region_quiet_below {P : Program} {id : Nat} {Q : Exit → Act → World → Prop} {a : Act} {w : World} {l : List Oper} (hm : P.follows .mixedOrders = true) (hB : Region.lexB .any l.toArray = true)
    (h : wpQuiet P l.toArray (fun w' => ∃ p : BelowOf w, w' = p.W) (fun a' => ∀ w', (∃ p : BelowOf w, w' = p.W) → Q .normal a' w') l a) : (Code.region id l.toArray true).wp P Q a w :=
  wp_region_quiet (C := fun w' => ∃ p : BelowOf w, w' = p.W) hm hB ⟨⟨w.drew, (Below.refl _ _).drew⟩, rfl⟩ (by simpa using h)
theorem Calls.quiet_below {P : Program} {f : FuncId} {args : Array Value} {w : World} {p : BelowOf w} {v : Value}
    (h : Calls P f args p.W fun e w' => e = .returned v ∧ Below p.W.heap.size p.W w') : Calls P f args p.W fun e w'' => e = .returned v ∧ ∃ q : BelowOf w, w'' = q.W :=
  h.mono fun _ w' ⟨he, hb⟩ => ⟨he, ⟨w', below_then p.h hb⟩, rfl⟩
theorem BelowOf.cell {w : World} {a : Addr} {v : Value} (h : w.cell? a = some v) (p : BelowOf w) : p.W.cell? a = some v :=
  (p.h.cell (World.block_lt_of_cell? _ _ h)).trans h
/-- an operation that isn't wanted -/
theorem wpQuiet_pass {P : Program} {ops : Array Oper} {C : World → Prop} {Q : Act → Prop} {o : Oper} {l : List Oper} {a : Act} (h : Region.wanted o (yielded ops a.tmps) = false) (hq : wpQuiet P ops C Q l (a.put o.dst undef)) : wpQuiet P ops C Q (o :: l) a := by
  unfold wpQuiet
  rw [h]
  exact hq
end Go.Proofs.YtfljhnalmiibeaaGreat

