/- Layer 9: a row of parts of the call's own is sorted by what parts of sets go by. -/
import Derived.Test.YtomdbjmbkfdcmaaMbBagClos
import Derived.Test.YtomdbjmbkfdcmaaMbJoin
namespace Go.Proofs.Ytomdbjmbkfdcmaa
set_option maxRecDepth 100000
open Go.RowKit Go.Sort Srt

theorem Try.egJoinB1 : ∀ args w, (callFunc 54 args).run Try.prog w = .ok (.enter 54 args) w := enters_of Try.func54 (by kernel_rfl) rfl
theorem cmpB1 (blk off n : Nat) (w0 : World) : CmpK Try.prog 54 #[] P11.cells 11 ltB blk off n w0 :=
  ⟨fun x y => cmpQ (spP x) (spP y), fun _ _ => cmpQ_lt _ _, fun _ W _ _ x y => joinB1_any x y W⟩

set_option maxHeartbeats 1600000 in
theorem insNilB (w : World) : Calls Try.prog 101 #[.slice none 0 0, .int .i64 0, .int .i64 0, .func (.func 54) #[] #[]] w fun e w' => e = .returned (.tuple #[]) ∧ w' = w := by
  go_enter Try.func101, Try.ntmps101
  go_wp2_with fail
  go_loopw [8] (fun v wr => v = .int .i64 1 ∧ wr = w) (fun _ _ => 0)
  case atStart => exact ⟨rfl, rfl⟩
  case round =>
    obtain ⟨rfl, rfl⟩ := hrel
    go_wp2
    go_end0
    exact ⟨rfl, rfl⟩

set_option maxHeartbeats 1600000 in
theorem stableNilB (w : World) : Calls Try.prog 90 #[.slice none 0 0, .int .i64 0, .func (.func 54) #[] #[]] w fun e w' => e = .returned (.tuple #[]) ∧ w' = w := by
  have C := Lib.hid (insNilB w)
  go_enter Try.func90, Try.ntmps90
  go_wp2_with fail
  go_loopw [7, 8] (fun v u wr => v = .int .i64 0 ∧ u = .int .i64 20 ∧ wr = w) (fun _ _ _ => 0)
  case atStart => exact ⟨rfl, rfl, rfl⟩
  case round =>
    obtain ⟨rfl, rfl, rfl⟩ := hrel
    go_wp2_with (go_at_call 101; refine C.out.mono ?_; rintro e w' ⟨rfl, rfl⟩)
    go_loopw [6] (fun v wr => v = .int .i64 20 ∧ wr = w') (fun _ _ => 0)
    case atStart => exact ⟨rfl, rfl⟩
    case round =>
      obtain ⟨rfl, rfl⟩ := hrel
      go_wp2
      go_end0
      exact ⟨rfl, rfl⟩

theorem sortNilB (w : World) : Calls Try.prog 53 #[.slice none 0 0, .func (.func 54) #[] #[]] w fun e w' => e = .returned (.tuple #[]) ∧ w' = w := by
  have C := Lib.hid (stableNilB w)
  go_enter Try.func53, Try.ntmps53
  go_wp2_with (go_at_call 90; refine C.out.mono ?_; rintro e w' ⟨rfl, rfl⟩)
  go_end0
  exact ⟨rfl, rfl⟩

/-- behind the sort the row reads so, and nothing else has turned -/
theorem sortB_any (base n : Nat) (v : Value) (l : List P11) (w w0 : World) (hn : n ≤ 4294967296) (h : w.ownsRow base 30 11 v n (l.flatMap P11.cells)) (hb : Below base w0 w) :
    Calls Try.prog 53 #[v, .func (.func 54) #[] #[]] w fun e w' => e = .returned (.tuple #[]) ∧ Below base w0 w' ∧ w.heap.size ≤ w'.heap.size ∧ (∀ i, i < w.heap.size → some i ≠ v.ownBlock → w'.heap[i]? = w.heap[i]?) ∧ ∃ A c, v = .slice A n c ∧ RdP w' A n c (isort ltB l) := by
  have hl : l.length = n := by
    have := h.1
    rw [flat_len p11len] at this
    omega
  rcases h.2 with ⟨rfl, rfl⟩ | ⟨g, cap, cur, rfl, hbg, hh, hnc, hcm, _, _⟩
  · have he : l = [] := List.eq_nil_of_length_eq_zero hl
    subst he
    refine (sortNilB w).mono ?_
    rintro e w' ⟨rfl, rfl⟩
    exact ⟨rfl, hb, Nat.le_refl _, fun _ _ _ => rfl, none, 0, rfl, RdG.nil_ _⟩
  · refine (sortStableK_any weakB layK encP 54 #[] g 0 cap n l w w Try.egJoinB1 (cmpB1 g 0 n w) (by omega) hl (own_sw h)).mono ?_
    rintro e w' ⟨rfl, hs⟩
    refine ⟨rfl, ?_, hs.size, fun i hi hne => hs.block i hi (fun e => hne (by rw [e]; rfl)), _, _, rfl, ⟨by rw [isort_len, hl], hnc, hcm, fun _ => ⟨g, 0, rfl, hs.lt, fun j hj i x hx => ?_⟩⟩⟩
    · exact ⟨hs.os.trans hb.os, hs.tape.trans hb.tape, hs.output.trans hb.output, Nat.le_trans hb.size hs.size, fun k hk => by
        by_cases hkw : k < w.heap.size
        · exact (hs.block k hkw (by omega)).trans (hb.block k hk)
        · have := (Array.getElem?_eq_some_iff.1 hh).1; omega⟩
    · exact hs.cell j _ (List.getElem?_eq_getElem hj) i x hx

end Go.Proofs.Ytomdbjmbkfdcmaa

