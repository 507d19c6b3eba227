/- Layer 7: the closures: which parts stay at a write, at a join; which stand behind; which is ahead. -/
import Derived.Test.YtieaobeidlhefaaMulMap
import Derived.Test.YtieaobeidlhefaaMulKeep
namespace Go.Proofs.Ytieaobeidlhefaa
set_option maxRecDepth 100000
open Go.RowKit

abbrev vecBox (A : Option Addr) (n c : Nat) : Obj := .cells #[.slice A n c] 34
theorem one_row {w : World} {g : Nat} {v : Value} {t : TypeId} (h : w.heap[g]? = some (.cells #[v] t)) : w.cell? ⟨g, 0, none⟩ = some v := by
  rw [cell_row h]; rfl

set_option maxHeartbeats 1600000 in
theorem write1_any (d : D2) (A : Option Addr) (n c : Nat) (kn : List Int) (gd gk : Nat) (w0 : World) (hd : w0.heap[gd]? = some (dotRow d)) (hk : w0.heap[gk]? = some (vecBox A n c)) (hr : Rd w0 A n c (vals .i64 kn)) :
    TellsP Try.prog 55 #[.pointer (some ⟨gd, 0, none⟩), .pointer (some ⟨gk, 0, none⟩)] (keptW d kn) w0 := by
  intro W hW x
  have B1 := below_new hW (partCells x)
  have hg := heap_alloc_new W (partCells x)
  obtain ⟨c0, c1, c2, c3, c4, c5, c6, c7, c8, c9, c10⟩ := part_row hg
  obtain ⟨d0, d1⟩ := dot_row (row_below hd B1)
  have k0 := one_row (row_below hk B1)
  have HQ := Lib.hid (vecHas_any A n c kn x.d.d x.d.s (W.alloc (partCells x)) (hr.below B1))
  have HB := Lib.hid (below_new (Below.refl W.heap.size W) (partCells x))
  have EQ := fun W2 => run_equalIn_dot x.d.d x.d.s d.d d.s W2
  clear hd hk hr hg
  rcases Decidable.em (x.d = d) with he | he
  · have HR : Hid (keptW d kn x = false) := by show _ = _; simp [keptW, he]
    rw [show (decide ((⟨x.d.d, x.d.s⟩ : D2) = ⟨d.d, d.s⟩)) = true from decide_eq_true he] at EQ
    rw [HR.out]
    clear he HQ
    go_enter Try.func55, Try.ntmps55
    go_wp2
    go_ret
    exact ⟨rfl, HB.out⟩
  · obtain ⟨r, hr⟩ : ∃ r, Hid (hasV kn x.d.d x.d.s = r) := ⟨_, rfl⟩
    have HR : Hid (keptW d kn x = !r) := by show _ = _; rw [← hr.out]; simp [keptW, he, knowsV]
    rw [show (decide ((⟨x.d.d, x.d.s⟩ : D2) = ⟨d.d, d.s⟩)) = false from decide_eq_false he] at EQ
    rw [HR.out]
    rw [hr.out] at HQ
    clear he
    go_enter Try.func55, Try.ntmps55
    go_wp2_with (go_at_call 56; refine HQ.out.mono ?_; rintro e w2 ⟨rfl, b2⟩)
    go_ret
    exact ⟨rfl, below_then HB.out b2⟩

set_option maxHeartbeats 1600000 in
theorem join1_any (ds : D2 → Bool) (A : Option Addr) (n c : Nat) (kn : List Int) (gm g gk : Nat) (w0 : World) (hm0 : w0.cell? ⟨gm, 0, none⟩ = some (.map (some g))) (hm : MapD w0 g ds) (hk : w0.heap[gk]? = some (vecBox A n c)) (hr : Rd w0 A n c (vals .i64 kn)) :
    TellsP Try.prog 60 #[.pointer (some ⟨gm, 0, none⟩), .pointer (some ⟨gk, 0, none⟩)] (fun p => ds p.d || !knowsV kn p.d) w0 := by
  intro W hW x
  have B1 := below_new hW (partCells x)
  have hg := heap_alloc_new W (partCells x)
  obtain ⟨c0, c1, c2, c3, c4, c5, c6, c7, c8, c9, c10⟩ := part_row hg
  have m0 := (B1.cell (p := ⟨gm, 0, none⟩) (block_lt_of_cell hm0)).trans hm0
  have k0 := one_row (row_below hk B1)
  have LK := run_look_dot (hm.below B1) x.d
  have HQ := Lib.hid (vecHas_any A n c kn x.d.d x.d.s (W.alloc (partCells x)) (hr.below B1))
  have HB := Lib.hid (below_new (Below.refl W.heap.size W) (partCells x))
  clear hm0 hm hk hr hg
  cases he : ds x.d with
  | true =>
    have HR : Hid ((ds x.d || !knowsV kn x.d) = true) := by show _ = _; simp [he]
    show Calls _ _ _ _ fun e W' => e = .returned (.bool (ds x.d || !knowsV kn x.d)) ∧ _
    rw [HR.out]
    rw [he] at LK
    clear he HQ HR
    go_enter Try.func60, Try.ntmps60
    go_wp2
    go_ret
    exact ⟨rfl, HB.out⟩
  | false =>
    obtain ⟨r, hr⟩ : ∃ r, Hid (hasV kn x.d.d x.d.s = r) := ⟨_, rfl⟩
    have HR : Hid ((ds x.d || !knowsV kn x.d) = !r) := by show _ = _; rw [← hr.out]; simp [knowsV, he]
    show Calls _ _ _ _ fun e W' => e = .returned (.bool (ds x.d || !knowsV kn x.d)) ∧ _
    rw [HR.out]
    rw [he] at LK
    rw [hr.out] at HQ
    clear he HR
    go_enter Try.func60, Try.ntmps60
    go_wp2_with (go_at_call 56; refine HQ.out.mono ?_; rintro e w2 ⟨rfl, b2⟩)
    go_ret
    exact ⟨rfl, below_then HB.out b2⟩

set_option maxHeartbeats 1600000 in
theorem join2_any (ds : D2 → Bool) (A : Option Addr) (n c : Nat) (kn : List Int) (gm g gk : Nat) (w0 : World) (hm0 : w0.cell? ⟨gm, 0, none⟩ = some (.map (some g))) (hm : MapD w0 g ds) (hk : w0.heap[gk]? = some (vecBox A n c)) (hr : Rd w0 A n c (vals .i64 kn)) :
    TellsP Try.prog 61 #[.pointer (some ⟨gm, 0, none⟩), .pointer (some ⟨gk, 0, none⟩)] (fun p => !ds p.d && !knowsV kn p.d) w0 := by
  intro W hW x
  have B1 := below_new hW (partCells x)
  have hg := heap_alloc_new W (partCells x)
  obtain ⟨c0, c1, c2, c3, c4, c5, c6, c7, c8, c9, c10⟩ := part_row hg
  have m0 := (B1.cell (p := ⟨gm, 0, none⟩) (block_lt_of_cell hm0)).trans hm0
  have k0 := one_row (row_below hk B1)
  have LK := run_look_dot (hm.below B1) x.d
  have HQ := Lib.hid (vecHas_any A n c kn x.d.d x.d.s (W.alloc (partCells x)) (hr.below B1))
  have HB := Lib.hid (below_new (Below.refl W.heap.size W) (partCells x))
  clear hm0 hm hk hr hg
  cases he : ds x.d with
  | true =>
    have HR : Hid ((!ds x.d && !knowsV kn x.d) = false) := by show _ = _; simp [he]
    show Calls _ _ _ _ fun e W' => e = .returned (.bool (!ds x.d && !knowsV kn x.d)) ∧ _
    rw [HR.out]
    rw [he] at LK
    clear he HQ HR
    go_enter Try.func61, Try.ntmps61
    go_wp2
    go_ret
    exact ⟨rfl, HB.out⟩
  | false =>
    obtain ⟨r, hr⟩ : ∃ r, Hid (hasV kn x.d.d x.d.s = r) := ⟨_, rfl⟩
    have HR : Hid ((!ds x.d && !knowsV kn x.d) = !r) := by show _ = _; rw [← hr.out]; simp [knowsV, he]
    show Calls _ _ _ _ fun e W' => e = .returned (.bool (!ds x.d && !knowsV kn x.d)) ∧ _
    rw [HR.out]
    rw [he] at LK
    rw [hr.out] at HQ
    clear he HR
    go_enter Try.func61, Try.ntmps61
    go_wp2_with (go_at_call 56; refine HQ.out.mono ?_; rintro e w2 ⟨rfl, b2⟩)
    go_ret
    exact ⟨rfl, below_then HB.out b2⟩

set_option maxHeartbeats 1600000 in
theorem place1_any (d : D2) (gd : Nat) (w0 : World) (hd : w0.heap[gd]? = some (dotRow d)) :
    TellsP Try.prog 85 #[.pointer (some ⟨gd, 0, none⟩)] (fun p => aboveD p.d d) w0 := by
  intro W hW x
  have B1 := below_new hW (partCells x)
  have hg := heap_alloc_new W (partCells x)
  obtain ⟨c0, c1, c2, c3, c4, c5, c6, c7, c8, c9, c10⟩ := part_row hg
  obtain ⟨d0, d1⟩ := dot_row (row_below hd B1)
  obtain ⟨r, hr, C⟩ : ∃ r, Hid (cmpD x.d d = r) ∧ Hid (Calls Try.prog 52 #[x.d.agg, d.agg] (W.alloc (partCells x)) fun e w' => e = .returned (.int .i64 r) ∧ Grown (W.alloc (partCells x)) w') := ⟨_, rfl, compare_any x.d d _⟩
  have HR : Hid (aboveD x.d d = decide (0 < r)) := by show _ = _; rw [← hr.out, cmpD_gt]
  have HB := Lib.hid (below_new (Below.refl W.heap.size W) (partCells x))
  show Calls _ _ _ _ fun e W' => e = .returned (.bool (aboveD x.d d)) ∧ _
  rw [HR.out]
  clear hd hg
  go_enter Try.func85, Try.ntmps85
  go_wp2_with (go_at_call 52; refine C.out.mono ?_; rintro e w2 ⟨rfl, b2⟩)
  go_ret
  exact ⟨rfl, below_then HB.out b2.below⟩

set_option maxHeartbeats 1600000 in
theorem join3_any (x y : P11) (W : World) : Calls Try.prog 63 #[x.agg, y.agg] W fun e W' => e = .returned (.int .i64 (cmpD x.d y.d)) ∧ Grown W W' := by
  have HB := Lib.hid (((Grown.refl W).alloc (partCells x)).alloc (partCells y))
  have hA := part_row (show ((W.alloc (partCells x)).alloc (partCells y)).heap[W.heap.size]? = some (partCells x) by rw [Below.heap_alloc _ _ _ (by simp)]; exact heap_alloc_new _ _)
  have hB := part_row (show ((W.alloc (partCells x)).alloc (partCells y)).heap[W.heap.size + 1]? = some (partCells y) by
    have := heap_alloc_new (W.alloc (partCells x)) (partCells y)
    rwa [World.size_alloc] at this)
  obtain ⟨c0, c1, c2, c3, c4, c5, c6, c7, c8, c9, c10⟩ := hA
  obtain ⟨d0, d1, d2, d3, d4, d5, d6, d7, d8, d9, d10⟩ := hB
  have C := Lib.hid (compare_any x.d y.d ((W.alloc (partCells x)).alloc (partCells y)))
  go_enter Try.func63, Try.ntmps63
  go_wp2_with (go_at_call 52; refine C.out.mono ?_; rintro e w2 ⟨rfl, b2⟩)
  go_ret
  exact ⟨rfl, HB.out.trans b2⟩
end Go.Proofs.Ytieaobeidlhefaa
