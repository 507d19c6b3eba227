/- Layer 9: the functions of one part by which puts, takes, joins and sorts of sets go. -/
import Derived.Test.YtomdbjmbkfdcmaaMbBagClos
import Derived.Test.YtomdbjmbkfdcmaaMbTail
import Derived.Deep.RegionHeld3
namespace Go.Proofs.Ytomdbjmbkfdcmaa
set_option maxRecDepth 100000
open Go.RowKit Go.Sort

abbrev takerRow (n : Int) (d : D2) (A : Option Addr) (m c : Nat) : Obj := .cells #[.int .i64 n, .int .i64 d.d, .int .i64 d.s, .slice A m c] 96
abbrev takerV (n : Int) (d : D2) (A : Option Addr) (m c : Nat) : Value := .agg #[.int .i64 n, .int .i64 d.d, .int .i64 d.s, .slice A m c]
theorem taker_row {w : World} {g : Nat} {n : Int} {d : D2} {A : Option Addr} {m c : Nat} (h : w.heap[g]? = some (takerRow n d A m c)) : w.cell? ⟨g, 0, none⟩ = some (.int .i64 n) ∧ w.cell? ⟨g, 1, none⟩ = some (.int .i64 d.d) ∧ w.cell? ⟨g, 2, none⟩ = some (.int .i64 d.s) ∧ w.cell? ⟨g, 3, none⟩ = some (.slice A m c) := by
  have h2 := cell_row h
  refine ⟨?_, ?_, ?_, ?_⟩ <;> (rw [h2]; rfl)

set_option maxHeartbeats 3200000 in
theorem leaves_any (n : Int) (d : D2) (kn : List Int) (A : Option Addr) (m c : Nat) (x : P11) (w : World) (hr : Rd w A m c (vals .i64 kn)) :
    Calls Try.prog 65 #[takerV n d A m c, x.agg] w fun e w' => e = .returned (.bool (leavesB n d kn x)) ∧ Below w.heap.size w w' := by
  obtain ⟨w2, hw2⟩ : ∃ w2, w2 = (w.alloc (takerRow n d A m c)).alloc (partCells x) := ⟨_, rfl⟩
  have hb : Below w.heap.size w w2 := by rw [hw2]; exact below_new (below_new (Below.refl _ _) _) _
  obtain ⟨t0, t1, t2, t3⟩ := taker_row (show w2.heap[w.heap.size]? = some (takerRow n d A m c) by rw [hw2]; exact old_at _ (heap_alloc_new w _))
  obtain ⟨c0, c1, c2, c3, c4, c5, c6, c7, c8, c9, c10⟩ := part_row (show w2.heap[w.heap.size + 1]? = some (partCells x) by rw [hw2]; exact new_at _ _ _ (by simp))
  have HQ := Lib.hid (vecHas_any A m c kn x.d.d x.d.s w2 (hr.below hb))
  have EQ := fun W2 => run_equalIn_dot x.d.d x.d.s d.d d.s W2
  have HB := Lib.hid hb
  replace hw2 := Lib.hid hw2
  clear hr hb
  by_cases hn : x.v.n = n
  · subst hn
    rcases Decidable.em (x.d = d) with he | he
    · have HR : Hid (leavesB x.v.n d kn x = false) := by show _ = _; simp [leavesB, he]
      rw [show (decide ((⟨x.d.d, x.d.s⟩ : D2) = ⟨d.d, d.s⟩)) = true from decide_eq_true he] at EQ
      rw [HR.out]
      clear he HQ
      go_enter Try.func65, Try.ntmps65
      go_upto_region 1 with fail
      rw [show (w.alloc (takerRow x.v.n d A m c)).alloc (partCells x) = w2 from hw2.out.symm]
      clear hw2
      go_wp2
      go_ret
      exact ⟨rfl, HB.out⟩
    · obtain ⟨r, hr⟩ : ∃ r, Hid (hasV kn x.d.d x.d.s = r) := ⟨_, rfl⟩
      have HR : Hid (leavesB x.v.n d kn x = !r) := by show _ = _; rw [← hr.out]; simp [leavesB, he, knowsV]
      rw [show (decide ((⟨x.d.d, x.d.s⟩ : D2) = ⟨d.d, d.s⟩)) = false from decide_eq_false he] at EQ
      rw [HR.out]
      rw [hr.out] at HQ
      clear he
      go_enter Try.func65, Try.ntmps65
      go_upto_region 1 with fail
      rw [show (w.alloc (takerRow x.v.n d A m c)).alloc (partCells x) = w2 from hw2.out.symm]
      clear hw2
      go_wp2_with (go_at_call 40; refine HQ.out.mono ?_; rintro e wx ⟨rfl, b2⟩)
      go_ret
      exact ⟨rfl, below_then HB.out b2⟩
  · have HR : Hid (leavesB n d kn x = true) := by show _ = _; simp [leavesB, hn]
    have hnb : (x.v.n == n) = false := by simpa using hn
    rw [HR.out]
    clear HQ EQ
    go_enter Try.func65, Try.ntmps65
    go_upto_region 1 with fail
    rw [show (w.alloc (takerRow n d A m c)).alloc (partCells x) = w2 from hw2.out.symm]
    clear hw2
    go_wp2
    go_ret
    exact ⟨rfl, HB.out⟩

abbrev copyRow (g : Nat) (A : Option Addr) (m c : Nat) : Obj := .cells #[.map (some g), .slice A m c] 77
abbrev copyV (g : Nat) (A : Option Addr) (m c : Nat) : Value := .agg #[.map (some g), .slice A m c]
theorem copy_row {w : World} {k : Nat} {g : Nat} {A : Option Addr} {m c : Nat} (h : w.heap[k]? = some (copyRow g A m c)) : w.cell? ⟨k, 0, none⟩ = some (.map (some g)) ∧ w.cell? ⟨k, 1, none⟩ = some (.slice A m c) := by
  have h2 := cell_row h
  refine ⟨?_, ?_⟩ <;> (rw [h2]; rfl)

set_option maxHeartbeats 6400000 in
theorem keeps_any (g : Nat) (ds : Sp → Bool) (kn : List Int) (A : Option Addr) (m c : Nat) (x : P11) (w : World) (hm : MapQ w g ds) (hr : Rd w A m c (vals .i64 kn)) :
    Calls Try.prog 51 #[copyV g A m c, x.agg] w fun e w' => e = .returned (.bool (ds (spP x) || !knowsV kn x.d)) ∧ Below w.heap.size w w' := by
  obtain ⟨w2, hw2⟩ : ∃ w2, w2 = (w.alloc (copyRow g A m c)).alloc (partCells x) := ⟨_, rfl⟩
  have hb : Below w.heap.size w w2 := by rw [hw2]; exact below_new (below_new (Below.refl _ _) _) _
  obtain ⟨t0, t1⟩ := copy_row (show w2.heap[w.heap.size]? = some (copyRow g A m c) by rw [hw2]; exact old_at _ (heap_alloc_new w _))
  obtain ⟨c0, c1, c2, c3, c4, c5, c6, c7, c8, c9, c10⟩ := part_row (show w2.heap[w.heap.size + 1]? = some (partCells x) by rw [hw2]; exact new_at _ _ _ (by simp))
  obtain ⟨r, hr0, HQ⟩ : ∃ r, Hid (knowsV kn x.d = r) ∧ Hid (∀ W, Below w2.heap.size w2 W → Calls Try.prog 40 #[.slice A m c, .agg #[.int .i64 x.d.d, .int .i64 x.d.s]] W fun e w' => e = .returned (.bool r) ∧ Below W.heap.size W w') := ⟨_, rfl, fun W hW => vecHas_any A m c kn x.d.d x.d.s W ((hr.below hb).below hW)⟩
  have C := Lib.hid (fun W => (spotOf_any x W).mono (R' := fun e w' => e = .returned (spP x).agg ∧ Below W.heap.size W w') fun e w' h => ⟨h.1, h.2.below⟩)
  have HM := Lib.hid (hm.below hb)
  have HB := Lib.hid hb
  replace hw2 := Lib.hid hw2
  clear hr hb hm
  cases hd : ds (spP x) with
  | true =>
    have HR : Hid ((true || !knowsV kn x.d) = (true)) := by show _ = _; rw [hr0.out]; simp
    show Calls _ _ _ _ fun e W' => e = .returned (.bool (true || !knowsV kn x.d)) ∧ _
    rw [HR.out]
    have KA : Hid (∀ W, Below w2.heap.size w2 W → (Below w2.heap.size w2 W ∧ W.cell? ⟨w.heap.size, 0, none⟩ = some (.map (some g)) ∧ W.cell? ⟨w.heap.size, 1, none⟩ = some (.slice A m c) ∧ W.cell? ⟨w.heap.size + 1, 0, none⟩ = some (.int .i64 x.v.k) ∧ W.cell? ⟨w.heap.size + 1, 1, none⟩ = some (.int .i64 x.v.n) ∧ W.cell? ⟨w.heap.size + 1, 2, none⟩ = some (.string x.v.s) ∧ W.cell? ⟨w.heap.size + 1, 3, none⟩ = some (.int .i64 x.d.d) ∧ W.cell? ⟨w.heap.size + 1, 4, none⟩ = some (.int .i64 x.d.s) ∧ W.cell? ⟨w.heap.size + 1, 5, none⟩ = some (.int .i64 x.i) ∧ W.cell? ⟨w.heap.size + 1, 6, none⟩ = some (.int .i64 x.t) ∧ W.cell? ⟨w.heap.size + 1, 7, none⟩ = some (.int .i64 x.a.d) ∧ W.cell? ⟨w.heap.size + 1, 8, none⟩ = some (.int .i64 x.a.s) ∧ W.cell? ⟨w.heap.size + 1, 9, none⟩ = some (.int .i64 x.j) ∧ W.cell? ⟨w.heap.size + 1, 10, none⟩ = some (.bool x.g) ∧ (Instr.lookup 74 (.map (some g)) (.agg #[.int .i64 (spP x).n, .int .i64 (spP x).d.d, .int .i64 (spP x).d.s]) false).run Try.prog W = .ok (.bool true) W)) := by
      intro W hW
      have hc : ∀ (p : Addr) (y : Value), w2.cell? p = some y → W.cell? p = some y := fun p y h2 => (hW.cell (World.block_lt_of_cell? _ _ h2)).trans h2
      exact ⟨hW, hc _ _ t0, hc _ _ t1, hc _ _ c0, hc _ _ c1, hc _ _ c2, hc _ _ c3, hc _ _ c4, hc _ _ c5, hc _ _ c6, hc _ _ c7, hc _ _ c8, hc _ _ c9, hc _ _ c10, (by have := run_look_spot (HM.out.below hW) (spP x); rw [hd] at this; exact this)⟩
    go_enter Try.func51, Try.ntmps51
    go_upto_region 1 with fail
    rw [show (w.alloc (copyRow g A m c)).alloc (partCells x) = w2 from hw2.out.symm]
    clear hw2
    refine wp_region_noPanic ?_
    refine wp_region_held_drew (S := (fun W => Below w2.heap.size w2 W ∧ W.cell? ⟨w.heap.size, 0, none⟩ = some (.map (some g)) ∧ W.cell? ⟨w.heap.size, 1, none⟩ = some (.slice A m c) ∧ W.cell? ⟨w.heap.size + 1, 0, none⟩ = some (.int .i64 x.v.k) ∧ W.cell? ⟨w.heap.size + 1, 1, none⟩ = some (.int .i64 x.v.n) ∧ W.cell? ⟨w.heap.size + 1, 2, none⟩ = some (.string x.v.s) ∧ W.cell? ⟨w.heap.size + 1, 3, none⟩ = some (.int .i64 x.d.d) ∧ W.cell? ⟨w.heap.size + 1, 4, none⟩ = some (.int .i64 x.d.s) ∧ W.cell? ⟨w.heap.size + 1, 5, none⟩ = some (.int .i64 x.i) ∧ W.cell? ⟨w.heap.size + 1, 6, none⟩ = some (.int .i64 x.t) ∧ W.cell? ⟨w.heap.size + 1, 7, none⟩ = some (.int .i64 x.a.d) ∧ W.cell? ⟨w.heap.size + 1, 8, none⟩ = some (.int .i64 x.a.s) ∧ W.cell? ⟨w.heap.size + 1, 9, none⟩ = some (.int .i64 x.j) ∧ W.cell? ⟨w.heap.size + 1, 10, none⟩ = some (.bool x.g) ∧ (Instr.lookup 74 (.map (some g)) (.agg #[.int .i64 (spP x).n, .int .i64 (spP x).d.d, .int .i64 (spP x).d.s]) false).run Try.prog W = .ok (.bool true) W)) (by kernel_rfl) ?_ (fun hHeld => ?_)
    · exact KA.out _ ((Below.refl _ _).drew)
    refine wpAnyH_one (by kernel_rfl) (fun _ _ _ _ _ h => h) (by assumption) 0 13 (some 5) ?_ _ (by rfl) (by rfl) (by kernel_rfl) (by rfl) ?_ ?_
    rotate_left 1
    · intro W hSw
      (try dsimp only at hSw)
      go_simp
      (try with_reducible rfl)
    (try simp only [Act.put, List.setIfInBounds_toArray, List.set_cons_zero, List.set_cons_succ])
    refine wpAnyH_one (by kernel_rfl) (fun _ _ _ _ _ h => h) (by assumption) 1 12 (some 6) ?_ _ (by rfl) (by rfl) (by kernel_rfl) (by rfl) ?_ ?_
    rotate_left 1
    · intro W hSw
      (try dsimp only at hSw)
      go_simp
      (try with_reducible rfl)
    (try simp only [Act.put, List.setIfInBounds_toArray, List.set_cons_zero, List.set_cons_succ])
    refine wpAnyH_one (by kernel_rfl) (fun _ _ _ _ _ h => h) (by assumption) 2 11 (some 7) ?_ _ (by rfl) (by rfl) (by kernel_rfl) (by rfl) ?_ ?_
    rotate_left 1
    · intro W hSw
      (try dsimp only at hSw)
      go_simp
      (try with_reducible rfl)
    (try simp only [Act.put, List.setIfInBounds_toArray, List.set_cons_zero, List.set_cons_succ])
    refine wpAnyH_ready (rs := [3]) (by kernel_rfl) (by simp) (AllReadyH.cons rfl (fun K hK => ?_) AllReadyH.nil)
    go_simp
    refine (C.out _).mono ?_
    rintro e wx ⟨rfl, bb⟩
    (try go_wp2_with fail)
    refine hK.out _ _ ?_ (fun hHeld => ?_)
    · (try dsimp only)
      exact KA.out _ (below_then hHeld.1 bb)
    clear hK K
    (try simp only [Act.put, List.setIfInBounds_toArray, List.set_cons_zero, List.set_cons_succ])
    refine wpAnyH_one (by kernel_rfl) (fun _ _ _ _ _ h => h) (by assumption) 4 9 (some 9) ?_ _ (by rfl) (by rfl) (by kernel_rfl) (by rfl) ?_ ?_
    rotate_left 1
    · intro W hSw
      (try dsimp only at hSw)
      go_simp
      (try with_reducible rfl)
    (try simp only [Act.put, List.setIfInBounds_toArray, List.set_cons_zero, List.set_cons_succ])
    refine wpAnyH_puts (by kernel_rfl) (fun _ _ _ _ _ h => h) (by assumption) [5, 6, 7, 8, 9, 10, 11, 12, 13] 0 [(some 10, .bool true), (some 11, undef), (some 12, undef), (some 13, undef), (some 14, undef), (some 15, undef), (some 16, undef), (some 17, .bool true), (some 4, .bool true)] (by kernel_rfl) (by kernel_rfl) ?_
    (try simp only [putsOf, Act.put, List.setIfInBounds_toArray, List.set_cons_zero, List.set_cons_succ])
    refine wpAnyH_done (by kernel_rfl) ?_ _
    refine NoPanic.normal ?_
    (try simp only [Act.put, List.setIfInBounds_toArray, List.set_cons_zero, List.set_cons_succ])
    have HZ := Lib.hid (below_then HB.out hHeld.1)
    go_wp2_with fail
    go_ret
    exact ⟨rfl, HZ.out⟩
  | false =>
    have HR : Hid ((false || !knowsV kn x.d) = (!r)) := by show _ = _; rw [hr0.out]; simp
    show Calls _ _ _ _ fun e W' => e = .returned (.bool (false || !knowsV kn x.d)) ∧ _
    rw [HR.out]
    have K : Hid (∀ W, Below w2.heap.size w2 W → (Below w2.heap.size w2 W ∧ W.cell? ⟨w.heap.size, 0, none⟩ = some (.map (some g)) ∧ W.cell? ⟨w.heap.size, 1, none⟩ = some (.slice A m c) ∧ W.cell? ⟨w.heap.size + 1, 0, none⟩ = some (.int .i64 x.v.k) ∧ W.cell? ⟨w.heap.size + 1, 1, none⟩ = some (.int .i64 x.v.n) ∧ W.cell? ⟨w.heap.size + 1, 2, none⟩ = some (.string x.v.s) ∧ W.cell? ⟨w.heap.size + 1, 3, none⟩ = some (.int .i64 x.d.d) ∧ W.cell? ⟨w.heap.size + 1, 4, none⟩ = some (.int .i64 x.d.s) ∧ W.cell? ⟨w.heap.size + 1, 5, none⟩ = some (.int .i64 x.i) ∧ W.cell? ⟨w.heap.size + 1, 6, none⟩ = some (.int .i64 x.t) ∧ W.cell? ⟨w.heap.size + 1, 7, none⟩ = some (.int .i64 x.a.d) ∧ W.cell? ⟨w.heap.size + 1, 8, none⟩ = some (.int .i64 x.a.s) ∧ W.cell? ⟨w.heap.size + 1, 9, none⟩ = some (.int .i64 x.j) ∧ W.cell? ⟨w.heap.size + 1, 10, none⟩ = some (.bool x.g) ∧ (Instr.lookup 74 (.map (some g)) (.agg #[.int .i64 (spP x).n, .int .i64 (spP x).d.d, .int .i64 (spP x).d.s]) false).run Try.prog W = .ok (.bool false) W)) := by
      intro W hW
      have hc : ∀ (p : Addr) (y : Value), w2.cell? p = some y → W.cell? p = some y := fun p y h2 => (hW.cell (World.block_lt_of_cell? _ _ h2)).trans h2
      exact ⟨hW, hc _ _ t0, hc _ _ t1, hc _ _ c0, hc _ _ c1, hc _ _ c2, hc _ _ c3, hc _ _ c4, hc _ _ c5, hc _ _ c6, hc _ _ c7, hc _ _ c8, hc _ _ c9, hc _ _ c10, (by have := run_look_spot (HM.out.below hW) (spP x); rw [hd] at this; exact this)⟩
    go_enter Try.func51, Try.ntmps51
    go_upto_region 1 with fail
    rw [show (w.alloc (copyRow g A m c)).alloc (partCells x) = w2 from hw2.out.symm]
    clear hw2
    go_region_held3 (fun W => Below w2.heap.size w2 W ∧ W.cell? ⟨w.heap.size, 0, none⟩ = some (.map (some g)) ∧ W.cell? ⟨w.heap.size, 1, none⟩ = some (.slice A m c) ∧ W.cell? ⟨w.heap.size + 1, 0, none⟩ = some (.int .i64 x.v.k) ∧ W.cell? ⟨w.heap.size + 1, 1, none⟩ = some (.int .i64 x.v.n) ∧ W.cell? ⟨w.heap.size + 1, 2, none⟩ = some (.string x.v.s) ∧ W.cell? ⟨w.heap.size + 1, 3, none⟩ = some (.int .i64 x.d.d) ∧ W.cell? ⟨w.heap.size + 1, 4, none⟩ = some (.int .i64 x.d.s) ∧ W.cell? ⟨w.heap.size + 1, 5, none⟩ = some (.int .i64 x.i) ∧ W.cell? ⟨w.heap.size + 1, 6, none⟩ = some (.int .i64 x.t) ∧ W.cell? ⟨w.heap.size + 1, 7, none⟩ = some (.int .i64 x.a.d) ∧ W.cell? ⟨w.heap.size + 1, 8, none⟩ = some (.int .i64 x.a.s) ∧ W.cell? ⟨w.heap.size + 1, 9, none⟩ = some (.int .i64 x.j) ∧ W.cell? ⟨w.heap.size + 1, 10, none⟩ = some (.bool x.g) ∧ (Instr.lookup 74 (.map (some g)) (.agg #[.int .i64 (spP x).n, .int .i64 (spP x).d.d, .int .i64 (spP x).d.s]) false).run Try.prog W = .ok (.bool false) W)
      (first
        | exact K.out _ ((Below.refl _ _).drew)
        | exact K.out _ (below_then (by go_split_ands; assumption) bb)
        | exact K.out _ (below_new (by go_split_ands; assumption) _)
        | assumption)
      (first
        | (go_at_call 44; refine (C.out _).mono ?_; rintro e wx ⟨rfl, bb⟩)
        | (go_at_call 40; refine (HQ.out _ (by first | exact Below.refl _ _ | exact (Below.refl _ _).drew | (go_split_ands; assumption))).mono ?_; rintro e wx ⟨rfl, bb⟩))
    have hSz : Below w2.heap.size w2 wx ∧ wx.cell? ⟨w.heap.size, 0, none⟩ = some (.map (some g)) ∧ wx.cell? ⟨w.heap.size, 1, none⟩ = some (.slice A m c) ∧ wx.cell? ⟨w.heap.size + 1, 0, none⟩ = some (.int .i64 x.v.k) ∧ wx.cell? ⟨w.heap.size + 1, 1, none⟩ = some (.int .i64 x.v.n) ∧ wx.cell? ⟨w.heap.size + 1, 2, none⟩ = some (.string x.v.s) ∧ wx.cell? ⟨w.heap.size + 1, 3, none⟩ = some (.int .i64 x.d.d) ∧ wx.cell? ⟨w.heap.size + 1, 4, none⟩ = some (.int .i64 x.d.s) ∧ wx.cell? ⟨w.heap.size + 1, 5, none⟩ = some (.int .i64 x.i) ∧ wx.cell? ⟨w.heap.size + 1, 6, none⟩ = some (.int .i64 x.t) ∧ wx.cell? ⟨w.heap.size + 1, 7, none⟩ = some (.int .i64 x.a.d) ∧ wx.cell? ⟨w.heap.size + 1, 8, none⟩ = some (.int .i64 x.a.s) ∧ wx.cell? ⟨w.heap.size + 1, 9, none⟩ = some (.int .i64 x.j) ∧ wx.cell? ⟨w.heap.size + 1, 10, none⟩ = some (.bool x.g) ∧ (Instr.lookup 74 (.map (some g)) (.agg #[.int .i64 (spP x).n, .int .i64 (spP x).d.d, .int .i64 (spP x).d.s]) false).run Try.prog wx = .ok (.bool false) wx := by assumption
    have HZ := Lib.hid (below_then HB.out hSz.1)
    clear hSz
    go_wp2_with fail
    go_ret
    exact ⟨rfl, HZ.out⟩

set_option maxHeartbeats 6400000 in
theorem lacks_any (g : Nat) (ds : Sp → Bool) (kn : List Int) (A : Option Addr) (m c : Nat) (x : P11) (w : World) (hm : MapQ w g ds) (hr : Rd w A m c (vals .i64 kn)) :
    Calls Try.prog 52 #[copyV g A m c, x.agg] w fun e w' => e = .returned (.bool (!ds (spP x) && !knowsV kn x.d)) ∧ Below w.heap.size w w' := by
  obtain ⟨w2, hw2⟩ : ∃ w2, w2 = (w.alloc (copyRow g A m c)).alloc (partCells x) := ⟨_, rfl⟩
  have hb : Below w.heap.size w w2 := by rw [hw2]; exact below_new (below_new (Below.refl _ _) _) _
  obtain ⟨t0, t1⟩ := copy_row (show w2.heap[w.heap.size]? = some (copyRow g A m c) by rw [hw2]; exact old_at _ (heap_alloc_new w _))
  obtain ⟨c0, c1, c2, c3, c4, c5, c6, c7, c8, c9, c10⟩ := part_row (show w2.heap[w.heap.size + 1]? = some (partCells x) by rw [hw2]; exact new_at _ _ _ (by simp))
  obtain ⟨r, hr0, HQ⟩ : ∃ r, Hid (knowsV kn x.d = r) ∧ Hid (∀ W, Below w2.heap.size w2 W → Calls Try.prog 40 #[.slice A m c, .agg #[.int .i64 x.d.d, .int .i64 x.d.s]] W fun e w' => e = .returned (.bool r) ∧ Below W.heap.size W w') := ⟨_, rfl, fun W hW => vecHas_any A m c kn x.d.d x.d.s W ((hr.below hb).below hW)⟩
  have C := Lib.hid (fun W => (spotOf_any x W).mono (R' := fun e w' => e = .returned (spP x).agg ∧ Below W.heap.size W w') fun e w' h => ⟨h.1, h.2.below⟩)
  have HM := Lib.hid (hm.below hb)
  have HB := Lib.hid hb
  replace hw2 := Lib.hid hw2
  clear hr hb hm
  cases hd : ds (spP x) with
  | true =>
    have HR : Hid ((!true && !knowsV kn x.d) = (false)) := by show _ = _; rw [hr0.out]; simp
    show Calls _ _ _ _ fun e W' => e = .returned (.bool (!true && !knowsV kn x.d)) ∧ _
    rw [HR.out]
    have KA : Hid (∀ W, Below w2.heap.size w2 W → (Below w2.heap.size w2 W ∧ W.cell? ⟨w.heap.size, 0, none⟩ = some (.map (some g)) ∧ W.cell? ⟨w.heap.size, 1, none⟩ = some (.slice A m c) ∧ W.cell? ⟨w.heap.size + 1, 0, none⟩ = some (.int .i64 x.v.k) ∧ W.cell? ⟨w.heap.size + 1, 1, none⟩ = some (.int .i64 x.v.n) ∧ W.cell? ⟨w.heap.size + 1, 2, none⟩ = some (.string x.v.s) ∧ W.cell? ⟨w.heap.size + 1, 3, none⟩ = some (.int .i64 x.d.d) ∧ W.cell? ⟨w.heap.size + 1, 4, none⟩ = some (.int .i64 x.d.s) ∧ W.cell? ⟨w.heap.size + 1, 5, none⟩ = some (.int .i64 x.i) ∧ W.cell? ⟨w.heap.size + 1, 6, none⟩ = some (.int .i64 x.t) ∧ W.cell? ⟨w.heap.size + 1, 7, none⟩ = some (.int .i64 x.a.d) ∧ W.cell? ⟨w.heap.size + 1, 8, none⟩ = some (.int .i64 x.a.s) ∧ W.cell? ⟨w.heap.size + 1, 9, none⟩ = some (.int .i64 x.j) ∧ W.cell? ⟨w.heap.size + 1, 10, none⟩ = some (.bool x.g) ∧ (Instr.lookup 74 (.map (some g)) (.agg #[.int .i64 (spP x).n, .int .i64 (spP x).d.d, .int .i64 (spP x).d.s]) false).run Try.prog W = .ok (.bool true) W)) := by
      intro W hW
      have hc : ∀ (p : Addr) (y : Value), w2.cell? p = some y → W.cell? p = some y := fun p y h2 => (hW.cell (World.block_lt_of_cell? _ _ h2)).trans h2
      exact ⟨hW, hc _ _ t0, hc _ _ t1, hc _ _ c0, hc _ _ c1, hc _ _ c2, hc _ _ c3, hc _ _ c4, hc _ _ c5, hc _ _ c6, hc _ _ c7, hc _ _ c8, hc _ _ c9, hc _ _ c10, (by have := run_look_spot (HM.out.below hW) (spP x); rw [hd] at this; exact this)⟩
    go_enter Try.func52, Try.ntmps52
    go_upto_region 1 with fail
    rw [show (w.alloc (copyRow g A m c)).alloc (partCells x) = w2 from hw2.out.symm]
    clear hw2
    refine wp_region_noPanic ?_
    refine wp_region_held_drew (S := (fun W => Below w2.heap.size w2 W ∧ W.cell? ⟨w.heap.size, 0, none⟩ = some (.map (some g)) ∧ W.cell? ⟨w.heap.size, 1, none⟩ = some (.slice A m c) ∧ W.cell? ⟨w.heap.size + 1, 0, none⟩ = some (.int .i64 x.v.k) ∧ W.cell? ⟨w.heap.size + 1, 1, none⟩ = some (.int .i64 x.v.n) ∧ W.cell? ⟨w.heap.size + 1, 2, none⟩ = some (.string x.v.s) ∧ W.cell? ⟨w.heap.size + 1, 3, none⟩ = some (.int .i64 x.d.d) ∧ W.cell? ⟨w.heap.size + 1, 4, none⟩ = some (.int .i64 x.d.s) ∧ W.cell? ⟨w.heap.size + 1, 5, none⟩ = some (.int .i64 x.i) ∧ W.cell? ⟨w.heap.size + 1, 6, none⟩ = some (.int .i64 x.t) ∧ W.cell? ⟨w.heap.size + 1, 7, none⟩ = some (.int .i64 x.a.d) ∧ W.cell? ⟨w.heap.size + 1, 8, none⟩ = some (.int .i64 x.a.s) ∧ W.cell? ⟨w.heap.size + 1, 9, none⟩ = some (.int .i64 x.j) ∧ W.cell? ⟨w.heap.size + 1, 10, none⟩ = some (.bool x.g) ∧ (Instr.lookup 74 (.map (some g)) (.agg #[.int .i64 (spP x).n, .int .i64 (spP x).d.d, .int .i64 (spP x).d.s]) false).run Try.prog W = .ok (.bool true) W)) (by kernel_rfl) ?_ (fun hHeld => ?_)
    · exact KA.out _ ((Below.refl _ _).drew)
    refine wpAnyH_one (by kernel_rfl) (fun _ _ _ _ _ h => h) (by assumption) 0 14 (some 5) ?_ _ (by rfl) (by rfl) (by kernel_rfl) (by rfl) ?_ ?_
    rotate_left 1
    · intro W hSw
      (try dsimp only at hSw)
      go_simp
      (try with_reducible rfl)
    (try simp only [Act.put, List.setIfInBounds_toArray, List.set_cons_zero, List.set_cons_succ])
    refine wpAnyH_one (by kernel_rfl) (fun _ _ _ _ _ h => h) (by assumption) 1 13 (some 6) ?_ _ (by rfl) (by rfl) (by kernel_rfl) (by rfl) ?_ ?_
    rotate_left 1
    · intro W hSw
      (try dsimp only at hSw)
      go_simp
      (try with_reducible rfl)
    (try simp only [Act.put, List.setIfInBounds_toArray, List.set_cons_zero, List.set_cons_succ])
    refine wpAnyH_one (by kernel_rfl) (fun _ _ _ _ _ h => h) (by assumption) 2 12 (some 7) ?_ _ (by rfl) (by rfl) (by kernel_rfl) (by rfl) ?_ ?_
    rotate_left 1
    · intro W hSw
      (try dsimp only at hSw)
      go_simp
      (try with_reducible rfl)
    (try simp only [Act.put, List.setIfInBounds_toArray, List.set_cons_zero, List.set_cons_succ])
    refine wpAnyH_ready (rs := [3]) (by kernel_rfl) (by simp) (AllReadyH.cons rfl (fun K hK => ?_) AllReadyH.nil)
    go_simp
    refine (C.out _).mono ?_
    rintro e wx ⟨rfl, bb⟩
    (try go_wp2_with fail)
    refine hK.out _ _ ?_ (fun hHeld => ?_)
    · (try dsimp only)
      exact KA.out _ (below_then hHeld.1 bb)
    clear hK K
    (try simp only [Act.put, List.setIfInBounds_toArray, List.set_cons_zero, List.set_cons_succ])
    refine wpAnyH_one (by kernel_rfl) (fun _ _ _ _ _ h => h) (by assumption) 4 10 (some 9) ?_ _ (by rfl) (by rfl) (by kernel_rfl) (by rfl) ?_ ?_
    rotate_left 1
    · intro W hSw
      (try dsimp only at hSw)
      go_simp
      (try with_reducible rfl)
    (try simp only [Act.put, List.setIfInBounds_toArray, List.set_cons_zero, List.set_cons_succ])
    refine wpAnyH_one (by kernel_rfl) (fun _ _ _ _ _ h => h) (by assumption) 5 9 (some 10) ?_ _ (by rfl) (by rfl) (by kernel_rfl) (by rfl) ?_ ?_
    rotate_left 1
    · intro W hSw
      (try dsimp only at hSw)
      go_simp
      (try with_reducible rfl)
    (try simp only [Act.put, List.setIfInBounds_toArray, List.set_cons_zero, List.set_cons_succ])
    refine wpAnyH_puts (by kernel_rfl) (fun _ _ _ _ _ h => h) (by assumption) [6, 7, 8, 9, 10, 11, 12, 13, 14] 0 [(some 11, .bool false), (some 12, undef), (some 13, undef), (some 14, undef), (some 15, undef), (some 16, undef), (some 17, undef), (some 18, .bool false), (some 4, .bool false)] (by kernel_rfl) (by kernel_rfl) ?_
    (try simp only [putsOf, Act.put, List.setIfInBounds_toArray, List.set_cons_zero, List.set_cons_succ])
    refine wpAnyH_done (by kernel_rfl) ?_ _
    refine NoPanic.normal ?_
    (try simp only [Act.put, List.setIfInBounds_toArray, List.set_cons_zero, List.set_cons_succ])
    have HZ := Lib.hid (below_then HB.out hHeld.1)
    go_wp2_with fail
    go_ret
    exact ⟨rfl, HZ.out⟩
  | false =>
    have HR : Hid ((!false && !knowsV kn x.d) = (!r)) := by show _ = _; rw [hr0.out]; simp
    show Calls _ _ _ _ fun e W' => e = .returned (.bool (!false && !knowsV kn x.d)) ∧ _
    rw [HR.out]
    have K : Hid (∀ W, Below w2.heap.size w2 W → (Below w2.heap.size w2 W ∧ W.cell? ⟨w.heap.size, 0, none⟩ = some (.map (some g)) ∧ W.cell? ⟨w.heap.size, 1, none⟩ = some (.slice A m c) ∧ W.cell? ⟨w.heap.size + 1, 0, none⟩ = some (.int .i64 x.v.k) ∧ W.cell? ⟨w.heap.size + 1, 1, none⟩ = some (.int .i64 x.v.n) ∧ W.cell? ⟨w.heap.size + 1, 2, none⟩ = some (.string x.v.s) ∧ W.cell? ⟨w.heap.size + 1, 3, none⟩ = some (.int .i64 x.d.d) ∧ W.cell? ⟨w.heap.size + 1, 4, none⟩ = some (.int .i64 x.d.s) ∧ W.cell? ⟨w.heap.size + 1, 5, none⟩ = some (.int .i64 x.i) ∧ W.cell? ⟨w.heap.size + 1, 6, none⟩ = some (.int .i64 x.t) ∧ W.cell? ⟨w.heap.size + 1, 7, none⟩ = some (.int .i64 x.a.d) ∧ W.cell? ⟨w.heap.size + 1, 8, none⟩ = some (.int .i64 x.a.s) ∧ W.cell? ⟨w.heap.size + 1, 9, none⟩ = some (.int .i64 x.j) ∧ W.cell? ⟨w.heap.size + 1, 10, none⟩ = some (.bool x.g) ∧ (Instr.lookup 74 (.map (some g)) (.agg #[.int .i64 (spP x).n, .int .i64 (spP x).d.d, .int .i64 (spP x).d.s]) false).run Try.prog W = .ok (.bool false) W)) := by
      intro W hW
      have hc : ∀ (p : Addr) (y : Value), w2.cell? p = some y → W.cell? p = some y := fun p y h2 => (hW.cell (World.block_lt_of_cell? _ _ h2)).trans h2
      exact ⟨hW, hc _ _ t0, hc _ _ t1, hc _ _ c0, hc _ _ c1, hc _ _ c2, hc _ _ c3, hc _ _ c4, hc _ _ c5, hc _ _ c6, hc _ _ c7, hc _ _ c8, hc _ _ c9, hc _ _ c10, (by have := run_look_spot (HM.out.below hW) (spP x); rw [hd] at this; exact this)⟩
    go_enter Try.func52, Try.ntmps52
    go_upto_region 1 with fail
    rw [show (w.alloc (copyRow g A m c)).alloc (partCells x) = w2 from hw2.out.symm]
    clear hw2
    go_region_held3 (fun W => Below w2.heap.size w2 W ∧ W.cell? ⟨w.heap.size, 0, none⟩ = some (.map (some g)) ∧ W.cell? ⟨w.heap.size, 1, none⟩ = some (.slice A m c) ∧ W.cell? ⟨w.heap.size + 1, 0, none⟩ = some (.int .i64 x.v.k) ∧ W.cell? ⟨w.heap.size + 1, 1, none⟩ = some (.int .i64 x.v.n) ∧ W.cell? ⟨w.heap.size + 1, 2, none⟩ = some (.string x.v.s) ∧ W.cell? ⟨w.heap.size + 1, 3, none⟩ = some (.int .i64 x.d.d) ∧ W.cell? ⟨w.heap.size + 1, 4, none⟩ = some (.int .i64 x.d.s) ∧ W.cell? ⟨w.heap.size + 1, 5, none⟩ = some (.int .i64 x.i) ∧ W.cell? ⟨w.heap.size + 1, 6, none⟩ = some (.int .i64 x.t) ∧ W.cell? ⟨w.heap.size + 1, 7, none⟩ = some (.int .i64 x.a.d) ∧ W.cell? ⟨w.heap.size + 1, 8, none⟩ = some (.int .i64 x.a.s) ∧ W.cell? ⟨w.heap.size + 1, 9, none⟩ = some (.int .i64 x.j) ∧ W.cell? ⟨w.heap.size + 1, 10, none⟩ = some (.bool x.g) ∧ (Instr.lookup 74 (.map (some g)) (.agg #[.int .i64 (spP x).n, .int .i64 (spP x).d.d, .int .i64 (spP x).d.s]) false).run Try.prog W = .ok (.bool false) W)
      (first
        | exact K.out _ ((Below.refl _ _).drew)
        | exact K.out _ (below_then (by go_split_ands; assumption) bb)
        | exact K.out _ (below_new (by go_split_ands; assumption) _)
        | assumption)
      (first
        | (go_at_call 44; refine (C.out _).mono ?_; rintro e wx ⟨rfl, bb⟩)
        | (go_at_call 40; refine (HQ.out _ (by first | exact Below.refl _ _ | exact (Below.refl _ _).drew | (go_split_ands; assumption))).mono ?_; rintro e wx ⟨rfl, bb⟩))
    have hSz : Below w2.heap.size w2 wx ∧ wx.cell? ⟨w.heap.size, 0, none⟩ = some (.map (some g)) ∧ wx.cell? ⟨w.heap.size, 1, none⟩ = some (.slice A m c) ∧ wx.cell? ⟨w.heap.size + 1, 0, none⟩ = some (.int .i64 x.v.k) ∧ wx.cell? ⟨w.heap.size + 1, 1, none⟩ = some (.int .i64 x.v.n) ∧ wx.cell? ⟨w.heap.size + 1, 2, none⟩ = some (.string x.v.s) ∧ wx.cell? ⟨w.heap.size + 1, 3, none⟩ = some (.int .i64 x.d.d) ∧ wx.cell? ⟨w.heap.size + 1, 4, none⟩ = some (.int .i64 x.d.s) ∧ wx.cell? ⟨w.heap.size + 1, 5, none⟩ = some (.int .i64 x.i) ∧ wx.cell? ⟨w.heap.size + 1, 6, none⟩ = some (.int .i64 x.t) ∧ wx.cell? ⟨w.heap.size + 1, 7, none⟩ = some (.int .i64 x.a.d) ∧ wx.cell? ⟨w.heap.size + 1, 8, none⟩ = some (.int .i64 x.a.s) ∧ wx.cell? ⟨w.heap.size + 1, 9, none⟩ = some (.int .i64 x.j) ∧ wx.cell? ⟨w.heap.size + 1, 10, none⟩ = some (.bool x.g) ∧ (Instr.lookup 74 (.map (some g)) (.agg #[.int .i64 (spP x).n, .int .i64 (spP x).d.d, .int .i64 (spP x).d.s]) false).run Try.prog wx = .ok (.bool false) wx := by assumption
    have HZ := Lib.hid (below_then HB.out hSz.1)
    clear hSz
    go_wp2_with fail
    go_ret
    exact ⟨rfl, HZ.out⟩

end Go.Proofs.Ytomdbjmbkfdcmaa

