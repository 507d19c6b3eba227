/- Layer 10: text.Show. -/
import Derived.Test.YtlgpijdemfccaaaMbTxtRight
namespace Go.Proofs.Ytlgpijdemfccaaa
set_option maxRecDepth 100000
open Go.RowKit

/-- the bytes that a text shows -/
def showL (l : List P11) : List Int := ((l.filter fun p => !p.g).map fun p => p.v.n).take 200
def showT (k : Int) (v : V3) (l : List P11) : V3 := if rightT10 k v l = 0 then ⟨2, 0, textOf (showL l)⟩ else zeroT
theorem showL_le (l : List P11) : (showL l).length ≤ 200 := by rw [showL, List.length_take]; omega
theorem showL_next {l : List P11} {k : Nat} {x : P11} (hx : l[k]? = some x) : showL (l.take (k + 1)) = if x.g = false ∧ (showL (l.take k)).length < 200 then showL (l.take k) ++ [x.v.n] else showL (l.take k) := by
  unfold showL
  rw [take_succ hx, List.filter_append, List.map_append]
  generalize ((l.take k).filter fun p => !p.g).map (fun p => p.v.n) = y
  cases hg : x.g with
  | true => simp [hg]
  | false =>
    by_cases h : (y.take 200).length < 200
    · rw [if_pos ⟨rfl, h⟩]
      rw [List.length_take] at h
      have e1 : y.take 200 = y := List.take_of_length_le (by omega)
      have e2 : ([x].filter fun p => !p.g).map (fun p => p.v.n) = [x.v.n] := by simp [hg]
      rw [e1, e2]
      exact List.take_of_length_le (by rw [List.length_append]; simp; omega)
    · rw [if_neg (fun e => h e.2)]
      rw [List.length_take] at h
      rw [List.take_append_of_le_length (by omega)]
theorem wrap_u8 {z : Int} (h : 0 ≤ z ∧ z ≤ 255) : IntKind.u8.wrap z = z := by
  simp [IntKind.wrap, IntKind.bits, IntKind.signed]; omega
theorem Try.infoU8T : (Try.prog.info? 5).map (fun i => (i.zero, i.size, i.bytes)) = some (some (.int .u8 0), 1, 1) := by kernel_rfl

set_option maxHeartbeats 6400000 in
theorem showT_any (k : Int) (v : V3) (A : Option Addr) (n c : Nat) (l : List P11) (w : World) (h : RdP w A n c l) (hn : n ≤ 4294967000) :
    Calls Try.prog 10 #[cellV k v (.slice A n c)] w fun e w' => e = .returned (showT k v l).agg ∧ Below w.heap.size w w' := by
  obtain ⟨w1, hw1⟩ : ∃ w1, w1 = (w.alloc (cellRow k v (.slice A n c))).alloc (valRow zeroT) := ⟨_, rfl⟩
  have hb1 : Below w.heap.size w w1 := by rw [hw1]; exact below_new (below_new (Below.refl _ _) _) _
  have hnew : w1.heap[w.heap.size]? = some (cellRow k v (.slice A n c)) := by rw [hw1]; exact heap_past (by simp) (heap_alloc_new w _)
  have hval : w1.heap[w.heap.size + 1]? = some (valRow zeroT) := by rw [hw1]; exact heap_at (by simp)
  obtain ⟨c0, c1, c2, c3, c4⟩ := cell_row5 hnew
  have HRD := Lib.hid (h.below hb1)
  have HL := Lib.hid h.len
  have hle := h.le
  have HB1 := Lib.hid hb1; have HNEW := Lib.hid hnew; have HVAL := Lib.hid hval; have HN := Lib.hid hn
  obtain ⟨V, hV⟩ : ∃ V, Hid (showT k v l = V) := ⟨_, rfl⟩
  rw [hV.out]
  obtain ⟨r, hr, RT⟩ : ∃ r, Hid (rightT10 k v l = r) ∧ Hid (Calls Try.prog 8 #[cellV k v (.slice A n c)] w1 fun e w' => e = .returned (.int .i64 r) ∧ Below w1.heap.size w1 w') := ⟨_, rfl, rightT_any k v A n c l w1 HRD.out hn⟩
  have hg1 : Hid (w.heap.size + 1 < w1.heap.size) := (Array.getElem?_eq_some_iff.1 hval).1
  replace hw1 := Lib.hid hw1
  clear h hb1 hnew hval hn
  go_enter Try.func10, Try.ntmps10
  go_upto_region 1 with fail
  rw [show (w.alloc (cellRow k v (.slice A n c))).alloc (valRow zeroT) = w1 from hw1.out.symm]
  clear hw1
  go_wp2_with fail
  refine RT.out.mono ?_
  rintro e w2 ⟨rfl, b2⟩
  have HB2 := Lib.hid (below_then HB1.out b2)
  have HRD2 := Lib.hid (HRD.out.below b2)
  have HN2 := Lib.hid (row_below HNEW.out b2)
  have HV2 := Lib.hid (row_below HVAL.out b2)
  have hg2 : Hid (w.heap.size + 1 < w2.heap.size) := Nat.lt_of_lt_of_le hg1.out b2.size
  clear RT b2 c0 c1 c2 c3 c4 HRD HNEW HVAL hg1
  by_cases h0 : r = 0
  rotate_left
  · have e1 : (r == 0) = false := by simpa using h0
    have hV2 : Hid (V = zeroT) := by show _ = _; rw [← hV.out, showT, hr.out, if_neg h0]
    obtain ⟨d0, d1, d2⟩ := val_row HV2.out
    have f0 := frozen_row HV2.out
    clear h0
    go_wp2_with fail
    rw [hV2.out]
    refine bodyPost_ret (v := zeroT.agg) (results_cell_row rfl _ _ (w.heap.size + 1) 23 _ (0, 0) _ rfl (set3 HV2.out) Try.underlying23 rfl (by kernel_rfl)) rfl ?_
    exact ⟨rfl, below_set3 HB2.out (by omega)⟩
  · obtain rfl := h0
    obtain ⟨d0, d1, d2, d3, d4⟩ := cell_row5 HN2.out
    have hform : Hid (∀ x ∈ l, 0 ≤ x.v.n ∧ x.v.n ≤ 255) := fun x hx => ((formedT_iff x).1 ((rightT10_ok.1 hr.out).2.2.1.1 x hx)).2.1
    have hV2 : Hid (V = ⟨2, 0, textOf (showL l)⟩) := by show _ = _; rw [← hV.out, showT, hr.out, if_pos rfl]
    clear hr hV
    go_wp2_with fail
    go_loopw [3, 13] (fun s i wr => ∃ (j : Nat) (S : List Int), j ≤ n ∧ i = .int .i64 j ∧ Hid (S = showL (l.take j)) ∧ (∃ B d, s = .slice B S.length d) ∧ Hid (wr.ownsRow w2.heap.size 5 1 s S.length (vals .u8 S)) ∧ Hid (Below w2.heap.size w2 wr)) (fun _ i _ => n - (intOf i).toNat)
    case atStart => exact ⟨0, [], Nat.zero_le _, rfl, by show _ = _; simp [showL], ⟨none, 0, rfl⟩, World.ownsRow_nil _ _ _ _, Below.refl _ _⟩
    case round =>
      clear d0 d1 d2 d3 d4
      obtain ⟨j, S, hj, rfl, hS, ⟨B, d, rfl⟩, HO, HB⟩ := hrel
      by_cases hlt : j < n
      · obtain ⟨b, o, x, rfl, hb, hx, hld⟩ := HRD2.out.part hlt
        obtain ⟨c0, c1, c2, c3, c4, c5, c6, c7, c8, c9, c10⟩ := hld wr HB.out
        have hnx := Lib.hid (showL_next hx)
        have hbyte := wrap_u8 (hform.out x (List.mem_of_getElem? hx))
        have hS2 : Hid (S.length ≤ 200) := by show _ ≤ _; rw [hS.out]; exact showL_le _
        obtain ⟨w3, hw3⟩ : ∃ w3, w3 = wr.alloc (partCells x) := ⟨_, rfl⟩
        have bb : Below wr.heap.size wr w3 := by rw [hw3]; exact below_new (Below.refl _ _) _
        have hnew : w3.heap[wr.heap.size]? = some (partCells x) := by rw [hw3]; exact heap_alloc_new _ _
        obtain ⟨e0, e1, e2, e3, e4, e5, e6, e7, e8, e9, e10⟩ := part_row hnew
        have HO3 := Lib.hid (own_below HO.out bb)
        have HB3 := Lib.hid (below_then HB.out bb)
        have hle3 : S.length ≤ 9223372036854775807 := by have := hS2.out; omega
        clear hld hx bb hnew HO HB
        replace hw3 := Lib.hid hw3
        go_upto_region 7 with fail
        rw [show wr.alloc (partCells x) = w3 from hw3.out.symm]
        clear hw3 c0 c1 c2 c3 c4 c5 c6 c7 c8 c9 c10
        obtain ⟨gb, hgb⟩ : ∃ gb, Hid (x.g = gb) := ⟨_, rfl⟩
        rw [hgb.out] at e10 hnx
        cases gb with
        | true =>
          have hS3 : Hid (S = showL (l.take (j + 1))) := by show _ = _; rw [hnx.out, if_neg (by simp), hS.out]
          clear hbyte
          go_wp2_with fail
          exact ⟨⟨j + 1, S, by omega, by go_num, hS3, ⟨_, _, rfl⟩, HO3, HB3⟩, by simp [intOf]; omega⟩
        | false =>
          by_cases hl2 : (S.length : Int) < 200
          · have hl3 : S.length < 200 := by omega
            have hl4 : decide (S.length < 200) = true := decide_eq_true hl3
            have hl5 : decide ((S.length : Int) < 200) = true := decide_eq_true hl2
            have hS3 : Hid (S ++ [x.v.n] = showL (l.take (j + 1))) := by show _ = _; rw [hnx.out, hS.out] ; rw [hS.out] at hl3; rw [if_pos ⟨rfl, hl3⟩]
            have hvs : Hid (vals .u8 S ++ [Value.int .u8 x.v.n] = vals .u8 (S ++ [x.v.n])) := by show _ = _; simp [vals]
            go_wp2_with (at_builtin; (refine wpList_push rfl (.tmp 25) (.tmp 30) 51 rfl 5 Try.underlying51 _ 1 Try.infoU8T rfl (by decide) w2.heap.size (.slice B S.length d) S.length (vals .u8 S) (.int .u8 x.v.n) rfl rfl HO3.out rfl (by omega) HB3.out HB3.out.size ?_; intro v4 w4 hw4 hb4 _; rw [hvs.out] at hw4; obtain ⟨B4, d4, rfl, _⟩ := Rd.of_own hw4; have HO4 := Lib.hid hw4; have HB4 := Lib.hid hb4; clear hw4 hb4))
            refine ⟨⟨j + 1, S ++ [x.v.n], by omega, by go_num, hS3, ⟨B4, d4, by simp⟩, ?_, HB4⟩, by simp [intOf]; omega⟩
            have e5 : (S ++ [x.v.n]).length = S.length + 1 := by simp
            rw [e5]; exact HO4
          · have hl3 : ¬ S.length < 200 := by omega
            have hl4 : decide (S.length < 200) = false := decide_eq_false hl3
            have hl5 : decide ((S.length : Int) < 200) = false := decide_eq_false hl2
            have hS3 : Hid (S = showL (l.take (j + 1))) := by show _ = _; rw [hnx.out, hS.out]; rw [hS.out] at hl3; rw [if_neg (fun e => hl3 e.2)]
            clear hbyte
            go_wp2_with fail
            exact ⟨⟨j + 1, S, by omega, by go_num, hS3, ⟨_, _, rfl⟩, HO3, HB3⟩, by simp [intOf]; omega⟩
      · have hS3 : S = showL l := by
          rw [hS.out, List.take_of_length_le (by have := HL.out; omega)]
        have hrd := Rd.own_ HO.out
        have TX : (convert 51 9 (.slice B S.length d)).run Try.prog wr = .ok (.string (textOf S)) wr := run_toText 51 9 5 Try.underlying51 Try.underlying5 Try.underlying9 hrd
        have HV4 := Lib.hid (row_below HV2.out HB.out)
        obtain ⟨d0, d1, d2⟩ := val_row HV4.out
        have f0 := frozen_row HV4.out
        have hV3 : Hid (V = ⟨2, 0, textOf S⟩) := by show _ = _; rw [hV2.out, hS3]
        have HB4 := Lib.hid (below_then HB2.out HB.out)
        clear hS3 hrd HO HB hS
        go_wp2_with fail
        rw [hV3.out]
        refine bodyPost_ret (v := V3.agg ⟨2, 0, textOf S⟩) (results_cell_row rfl _ _ (w.heap.size + 1) 23 _ (0, 0) _ rfl (set3 HV4.out) Try.underlying23 rfl (by kernel_rfl)) rfl ?_
        exact ⟨rfl, below_set3 HB4.out (by omega)⟩
end Go.Proofs.Ytlgpijdemfccaaa

