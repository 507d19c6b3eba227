/- Layer 2: what is read of a text: the document's answer. -/
import Derived.Test.YtkicjhphiibifaaDoorValRead2
import Derived.Test.YtkicjhphiibifaaDoorValRefShow
namespace Go.Proofs.YtkicjhphiibifaaDoor
set_option maxRecDepth 100000
open Go.RowKit

theorem numAcc_step (l : List UInt8) (j : Nat) (hj : j < l.length) (h20 : j < 20) (z : Int) :
    numAcc (20 - j) (l.drop j) z = numAcc (20 - (j + 1)) (l.drop (j + 1)) (if 48 ≤ ((l[j]'hj).toNat : Int) ∧ ((l[j]'hj).toNat : Int) ≤ 57 ∧ z < 100000000000000000 then 10 * z + ((l[j]'hj).toNat : Int) - 48 else z) := by
  rw [List.drop_eq_getElem_cons hj, show 20 - j = (20 - (j + 1)) + 1 by omega, numAcc]
  congr 1
  by_cases h : 48 ≤ (l[j]'hj).toNat ∧ (l[j]'hj).toNat ≤ 57 ∧ z < 100000000000000000
  · rw [if_pos h, if_pos (by omega)]
  · rw [if_neg h, if_neg (by omega)]

theorem numAcc_end (l : List UInt8) (j : Nat) (h : l.length ≤ j ∨ 20 ≤ j) (z : Int) : numAcc (20 - j) (l.drop j) z = z := by
  rcases h with h | h
  · rw [List.drop_eq_nil_of_le h]; cases 20 - j <;> rfl
  · rw [show 20 - j = 0 by omega]; rfl

theorem unq_cons (c : UInt8) (r : List UInt8) : unq (c :: r) = c :: unq (if c = 39 then r.drop 1 else r) := by
  cases r with
  | nil => simp [unq]
  | cons d r => rw [unq]; split <;> simp

theorem inner_is (l : List UInt8) : inner l = (l.take (l.length - 1)).drop 1 := by
  rw [inner, List.dropLast_eq_take, List.length_drop, List.drop_take]

theorem unq_step (l : List UInt8) (j : Nat) (hj : j < l.length - 1) :
    unq ((l.take (l.length - 1)).drop j) = [l[j]'(by omega)] ++ unq ((l.take (l.length - 1)).drop (if ((l[j]'(by omega)).toNat : Int) = 39 then j + 2 else j + 1)) := by
  have hm : j < (l.take (l.length - 1)).length := by rw [List.length_take]; omega
  rw [List.drop_eq_getElem_cons hm, unq_cons, List.getElem_take]
  generalize (l[j]'(by omega)) = c
  by_cases h : c = 39
  · subst h; rw [if_pos rfl, if_pos (by rfl), List.drop_drop]; rfl
  · rw [if_neg h, if_neg (fun e => h (UInt8.toNat_inj.1 (by rw [show (39 : UInt8).toNat = 39 from rfl]; omega)))]; rfl

theorem unq_end (l : List UInt8) (j : Nat) (h : l.length - 1 ≤ j) : unq ((l.take (l.length - 1)).drop j) = [] := by
  rw [List.drop_eq_nil_of_le (by rw [List.length_take]; omega)]; rfl

def cK (m : Nat) : Int := if m = 2 then 2 else 1
def cN (z : Int) (m : Nat) : Int := if m = 0 then z else if m = 1 then -z else 0
def cS (T : ByteArray) (m : Nat) : ByteArray := if m = 2 then T else ⟨#[]⟩
def cOk (s : ByteArray) (z : Int) (T : ByteArray) (m : Nat) : Bool := rightZ (cK m) (cN z m) (cS T m).size && decide (showB (cK m) (cN z m) (cS T m) = s)

theorem showB_eq {k n : Int} {S s : ByteArray} : showB k n S = s ↔ showZ k n S.data.toList = s.data.toList :=
  ⟨fun h => by rw [← h]; rfl, fun h => ba_ext h⟩

theorem ref_hit {s T : ByteArray} {z : Int} (hn : s.data.toList ≠ [110, 117, 108, 108]) (hz : z = numAcc 20 s.data.toList 0) (hT : T.data.toList = unq (inner s.data.toList)) {m : Nat} (hm : m < 3) (h : cOk s z T m = true) :
    readK s.data.toList = cK m ∧ readN s.data.toList = cN z m ∧ readB s = cS T m ∧ readE s.data.toList = 0 := by
  obtain ⟨a, b, c, _⟩ := ref_read s.data.toList hn
  subst hz
  rw [← hT] at c
  have es : ByteArray.size ⟨#[]⟩ = 0 := rfl
  simp only [cOk, Bool.and_eq_true, decide_eq_true_eq, showB_eq] at h
  obtain rfl | rfl | rfl : m = 0 ∨ m = 1 ∨ m = 2 := by omega
  · obtain ⟨x, y, v, u⟩ := a (by simpa [cK, cN, cS, es] using h)
    exact ⟨x, y, by rw [readB, v]; rfl, u⟩
  · obtain ⟨x, y, v, u⟩ := b (by simpa [cK, cN, cS, es] using h)
    exact ⟨x, y, by rw [readB, v]; rfl, u⟩
  · obtain ⟨x, y, v, u⟩ := c (by simpa [cK, cN, cS, es] using h)
    exact ⟨x, y, by rw [readB, v]; rfl, u⟩

theorem ref_miss {s T : ByteArray} {z : Int} (hn : s.data.toList ≠ [110, 117, 108, 108]) (hz : z = numAcc 20 s.data.toList 0) (hT : T.data.toList = unq (inner s.data.toList)) (h : ∀ m, m < 3 → cOk s z T m = false) :
    readK s.data.toList = 0 ∧ readN s.data.toList = 0 ∧ readB s = ⟨#[]⟩ ∧ readE s.data.toList = 3 := by
  obtain ⟨_, _, _, d⟩ := ref_read s.data.toList hn
  subst hz
  rw [← hT] at d
  have key : ∀ m, m < 3 → ¬ (rightZ (cK m) (cN (numAcc 20 s.data.toList 0) m) (cS T m).size && decide (showZ (cK m) (cN (numAcc 20 s.data.toList 0) m) (cS T m).data.toList = s.data.toList)) = true := by
    intro m hm e
    have := h m hm
    simp only [cOk, showB_eq] at this
    rw [this] at e; cases e
  have es : ByteArray.size ⟨#[]⟩ = 0 := rfl
  obtain ⟨x, y, v, u⟩ := d (fun e => key 0 (by decide) (by simpa [cK, cN, cS, es] using e)) (fun e => key 1 (by decide) (by simpa [cK, cN, cS, es] using e)) (fun e => key 2 (by decide) (by simpa [cK, cN, cS, es] using e))
  exact ⟨x, y, by rw [readB, v], u⟩

theorem read_null : readK [110, 117, 108, 108] = 0 ∧ readN [110, 117, 108, 108] = 0 ∧ readB ⟨#[110, 117, 108, 108]⟩ = ⟨#[]⟩ ∧ readE [110, 117, 108, 108] = 0 := by
  have h := readOk_of (k := 0) (n := 0) (s := []) (l := [110, 117, 108, 108]) (by decide) (by decide)
  exact ⟨h.2.1, h.2.2.1, by rw [readB, h.2.2.2.1], h.2.2.2.2⟩

set_option maxHeartbeats 6400000 in
theorem refRead_any (s : ByteArray) (w : World) (hs : s.size ≤ 1000000000) :
    Calls Tryd.prog 19 #[.string s] w fun e w' => e = .returned (.tuple #[.agg #[.int .i64 (readK s.data.toList), .int .i64 (readN s.data.toList), .string (readB s)], .int .i64 (readE s.data.toList)]) ∧ Below w.heap.size w w' := by
  rcases Decidable.em (s = ⟨#[110, 117, 108, 108]⟩) with rfl | hn
  · go_enter Tryd.func19, Tryd.ntmps19
    go_wp2
    refine bodyPost_ret (v := .tuple #[.agg #[.int .i64 0, .int .i64 0, .string ⟨#[]⟩], .int .i64 0]) (results_row_tmp rfl _ _ w.heap.size 23 _ (0, 0) _ rfl (heap_alloc_new _ _) Tryd.underlying23 rfl (by kernel_rfl) rfl) rfl ⟨?_, below_new (Below.refl _ _) _⟩
    obtain ⟨a, b, c, d⟩ := read_null
    rw [c]
    show _ = Ending.returned (.tuple #[.agg #[.int .i64 (readK [110, 117, 108, 108]), .int .i64 (readN [110, 117, 108, 108]), _], .int .i64 (readE [110, 117, 108, 108])])
    rw [a, b, d]
  · have hn2 : ¬ s.data.toList = [110, 117, 108, 108] := fun h => hn (ba_ext h)
    have hq : (s.toList == [110, 117, 108, 108]) = false := by rw [Lib.toList_data]; simpa using hn2
    have HN := Lib.hid hn2; clear hn hn2
    go_enter Tryd.func19, Tryd.ntmps19
    have ix : ∀ (j : Nat) (hj : j < s.size) (W : World), (Instr.index 9 (.string s) (.int .i64 j)).run Tryd.prog W = .ok (.int .u8 ((s.data.toList[j]'hj).toNat : Int)) W := fun j hj W => by
      rw [run_index_string _ _ _ _ _ Tryd.underlying9, dif_pos ⟨by omega, by omega⟩]
      rfl
    have IX := Lib.hid ix; clear ix
    go_upto_block 0 with (fail)
    go_cut [4] (fun a w' => ∃ (z : Int), a = .int .i64 z ∧ Hid (z = numAcc 20 s.data.toList 0) ∧ 0 ≤ z ∧ z < 1000000000000000000 ∧ w.alloc (.cells #[.int .i64 0, .int .i64 0, .string ⟨#[]⟩] 23) = w')
    case first =>
      go_wp2
      go_loop [4, 5] (fun a i => ∃ (j : Nat) (z : Int), j ≤ s.size ∧ j ≤ 20 ∧ i = .int .i64 j ∧ a = .int .i64 z ∧ 0 ≤ z ∧ z < 1000000000000000000 ∧ Hid (numAcc 20 s.data.toList 0 = numAcc (20 - j) (s.data.toList.drop j) z)) (fun _ i => s.size - (intOf i).toNat)
      case atStart => exact ⟨0, 0, Nat.zero_le _, by omega, rfl, rfl, by omega, by omega, rfl⟩
      case round =>
        obtain ⟨j, z, hj, hj20, rfl, rfl, z0, z1, hD⟩ := hrel
        by_cases hlt : j < s.size
        · by_cases h20 : j < 20
          · obtain ⟨c, hix, hc0, hc1, hD⟩ : ∃ c : Int, (∀ W : World, (Instr.index 9 (.string s) (.int .i64 j)).run Tryd.prog W = .ok (.int .u8 c) W) ∧ 0 ≤ c ∧ c ≤ 255 ∧
                Hid (numAcc 20 s.data.toList 0 = numAcc (20 - (j + 1)) (s.data.toList.drop (j + 1)) (if 48 ≤ c ∧ c ≤ 57 ∧ z < 100000000000000000 then 10 * z + c - 48 else z)) := by
              refine ⟨_, IX.out j hlt, by omega, ?_, Lib.hid ?_⟩
              · have := (s.data.toList[j]'hlt).toNat_lt; omega
              · rw [hD.out]; exact numAcc_step s.data.toList j hlt h20 z
            have hjn : (j : Int) < s.size := by omega
            have hj2 : (j : Int) < 20 := by omega
            clear IX
            rcases Decidable.em (48 ≤ c ∧ c ≤ 57 ∧ z < 100000000000000000) with h | h
            · have hD := Lib.hid (hD.out.trans (by rw [if_pos h]))
              obtain ⟨g1, g2, g3⟩ := h
              go_wp2
              exact ⟨⟨j + 1, _, by omega, by omega, by go_num, rfl, by omega, by omega, hD⟩, by simp [intOf]; omega⟩
            · have hD := Lib.hid (hD.out.trans (by rw [if_neg h]))
              rcases Decidable.em (48 ≤ c) with g1 | g1 <;> rcases Decidable.em (c ≤ 57) with g2 | g2 <;> rcases Decidable.em (z < 100000000000000000) with g3 | g3
              · exact absurd ⟨g1, g2, g3⟩ h
              all_goals
                clear h
                go_wp2
                exact ⟨⟨j + 1, z, by omega, by omega, by go_num, rfl, by omega, by omega, hD⟩, by simp [intOf]; omega⟩
          · have hj2 : ¬ (j : Int) < 20 := by omega
            have hjn : (j : Int) < s.size := by omega
            have hz : Hid (z = numAcc 20 s.data.toList 0) := Lib.hid (by rw [hD.out, numAcc_end _ _ (.inr (by omega))])
            go_wp2
            go_meet
            exact ⟨z, rfl, hz, z0, z1, rfl⟩
        · have hjn : ¬ (j : Int) < s.size := by omega
          have hz : Hid (z = numAcc 20 s.data.toList 0) := Lib.hid (by rw [hD.out, numAcc_end _ _ (.inl (show s.size ≤ j by omega))])
          go_wp2
          go_meet
          exact ⟨z, rfl, hz, z0, z1, rfl⟩
    case rest =>
      obtain ⟨z, rfl, hz, z0, z1, rfl⟩ := hcut
      have sl : ∀ (j : Nat) (hj : j < s.size) (W : World), (Instr.slice 9 (.string s) (some (.int .i64 j)) (some (.int .i64 ((j : Int) + 1))) none).run Tryd.prog W = .ok (.string (s.extract j (j + 1))) W := fun j hj W => by
        rw [run_slice_string _ _ _ _ _ _ _ Tryd.underlying9 (by omega) (by omega) (by omega)]
        rfl
      have SL := Lib.hid sl; clear sl
      have HS : s.data.toList.length = s.size := rfl
      have HS := Lib.hid HS
      go_upto_block 2 with (fail)
      go_cut [6] (fun a w' => ∃ (T : ByteArray), a = .string T ∧ Hid (T.data.toList = unq (inner s.data.toList)) ∧ T.size ≤ 1000000001 ∧ w.alloc (.cells #[.int .i64 0, .int .i64 0, .string ⟨#[]⟩] 23) = w')
      case first =>
        go_wp2
        go_loop [6, 7] (fun a i => ∃ (j : Nat) (T : ByteArray), 1 ≤ j ∧ j ≤ s.size + 1 ∧ i = .int .i64 j ∧ a = .string T ∧ T.size + 1 ≤ j ∧ Hid (unq (inner s.data.toList) = T.data.toList ++ unq ((s.data.toList.take (s.data.toList.length - 1)).drop j))) (fun _ i => s.size + 2 - (intOf i).toNat)
        case atStart => exact ⟨1, ⟨#[]⟩, by omega, by omega, rfl, rfl, by decide, by show _ = _; rw [inner_is]; rfl⟩
        case round =>
          obtain ⟨j, T, hj1, hj, rfl, rfl, hT, hD⟩ := hrel
          by_cases hlt : j < s.size - 1
          · obtain ⟨c, U, hix, hsl, hU1, hc0, hc1, hD⟩ : ∃ (c : Int) (U : ByteArray), (∀ W : World, (Instr.index 9 (.string s) (.int .i64 j)).run Tryd.prog W = .ok (.int .u8 c) W) ∧
                (∀ W : World, (Instr.slice 9 (.string s) (some (.int .i64 j)) (some (.int .i64 ((j : Int) + 1))) none).run Tryd.prog W = .ok (.string U) W) ∧ U.size = 1 ∧ 0 ≤ c ∧ c ≤ 255 ∧
                Hid (unq (inner s.data.toList) = (T ++ U).data.toList ++ unq ((s.data.toList.take (s.data.toList.length - 1)).drop (if c = 39 then j + 2 else j + 1))) := by
              have hlt2 : j < s.size := by omega
              have ho := one_byte hlt2
              refine ⟨_, _, IX.out j hlt2, SL.out j hlt2, ?_, by omega, ?_, Lib.hid ?_⟩
              · show (s.extract j (j + 1)).data.toList.length = 1
                rw [ho]; rfl
              · have := (s.data.toList[j]'hlt2).toNat_lt; omega
              · rw [toList_app, ho, hD.out, unq_step s.data.toList j hlt, List.append_assoc]
            clear IX SL
            have hjn : (j : Int) < (s.size : Int) - 1 := by omega
            have a3 : ∀ W, (Op.stringOp .add T U).run Tryd.prog W = .ok (.string (T ++ U)) W := fun W => run_string_add_sum W _ _ (by omega)
            have hTU : (T ++ U).size + 1 ≤ j + 1 := by rw [ByteArray.size_append, hU1]; omega
            have hU := Lib.hid hU1; clear hU1
            by_cases h39 : c = 39
            · subst h39
              have hD := Lib.hid (hD.out.trans (by rw [if_pos rfl]))
              go_wp2
              exact ⟨⟨j + 2, T ++ U, by omega, by omega, by go_num, rfl, by omega, hD⟩, by simp [intOf]; omega⟩
            · have hD := Lib.hid (hD.out.trans (by rw [if_neg h39]))
              go_wp2
              exact ⟨⟨j + 1, T ++ U, by omega, by omega, by go_num, rfl, by omega, hD⟩, by simp [intOf]; omega⟩
          · have hjn : ¬ (j : Int) < (s.size : Int) - 1 := by omega
            have hE : Hid (T.data.toList = unq (inner s.data.toList)) := Lib.hid (by rw [hD.out, unq_end _ _ (by rw [HS.out]; omega), List.append_nil])
            go_wp2
            go_meet
            exact ⟨T, rfl, hE, by omega, rfl⟩
      case rest =>
        obtain ⟨T, rfl, hT, hTs, rfl⟩ := hcut
        go_wp2
        have HZ : w.heap[w.heap.size]? = none := by simp
        clear HZ
        have hb0 := heap_alloc_new w (.cells #[.int .i64 0, .int .i64 0, .string ⟨#[]⟩] 23)
        have hb1 := row_below hb0 (below_new (Below.refl _ _) (.cells #[.int .i64 1, .int .i64 z, .string ⟨#[]⟩, .int .i64 1, .int .i64 (-z), .string ⟨#[]⟩, .int .i64 2, .int .i64 0, .string T] 23))
        have hl1 := heap_alloc_new (w.alloc (.cells #[.int .i64 0, .int .i64 0, .string ⟨#[]⟩] 23)) (.cells #[.int .i64 1, .int .i64 z, .string ⟨#[]⟩, .int .i64 1, .int .i64 (-z), .string ⟨#[]⟩, .int .i64 2, .int .i64 0, .string T] 23)
        rw [World.size_alloc] at hl1
        have HB := Lib.hid hb1; have HL := Lib.hid hl1; clear hb0 hb1 hl1
        go_loopw [9] (fun i wr => ∃ (j : Nat), j ≤ 3 ∧ i = .int .i64 j ∧ Hid (∀ m, m < j → cOk s z T m = false) ∧
          Hid (wr.heap[w.heap.size]? = some (.cells #[.int .i64 0, .int .i64 0, .string ⟨#[]⟩] 23)) ∧
          Hid (wr.heap[w.heap.size + 1]? = some (.cells #[.int .i64 1, .int .i64 z, .string ⟨#[]⟩, .int .i64 1, .int .i64 (-z), .string ⟨#[]⟩, .int .i64 2, .int .i64 0, .string T] 23)) ∧
          Below w.heap.size w wr) (fun i _ => 3 - (intOf i).toNat)
        case atStart => exact ⟨0, by omega, rfl, fun m hm => absurd hm (by omega), HB.out, HL.out, below_new (below_new (Below.refl _ _) _) _⟩
        case round =>
          obtain ⟨j, hj, rfl, hF, hR, hL, hbel⟩ := hrel
          clear HB HL IX SL
          have hmore : ∀ m, m < 3 → cOk s z T m = false → (∀ i, i < m → cOk s z T i = false) → ∀ i, i < m + 1 → cOk s z T i = false := fun m _ h g i hi => by
            by_cases e : i = m
            · subst e; exact h
            · exact g i (by omega)
          have HM := Lib.hid hmore; clear hmore
          obtain rfl | rfl | rfl | rfl : j = 0 ∨ j = 1 ∨ j = 2 ∨ j = 3 := by omega
          · obtain ⟨r, X, hok, CR, CS⟩ : ∃ (r : Bool) (X : ByteArray), Hid (cOk s z T 0 = (r && decide (X = s))) ∧
                Hid (∀ W : World, Calls Tryd.prog 11 #[.agg #[.int .i64 1, .int .i64 z, .string ⟨#[]⟩]] W fun e w' => e = .returned (.bool r) ∧ Below W.heap.size W w') ∧
                Hid (∀ W : World, Calls Tryd.prog 17 #[.agg #[.int .i64 1, .int .i64 z, .string ⟨#[]⟩]] W fun e w' => e = .returned (.string X) ∧ Below W.heap.size W w') :=
              ⟨_, _, Lib.hid (by rfl), Lib.hid fun W => refRight_any 1 z ⟨#[]⟩ W (by decide), Lib.hid fun W => refShow_any 1 z ⟨#[]⟩ W (by omega) (by omega) (by decide)⟩
            have v0 := cell_row hL.out 0; have v1 := cell_row hL.out 1; have v2 := cell_row hL.out 2
            go_wp2_with fail
            refine (CR.out _).mono ?_
            rintro e w3 ⟨rfl, b3⟩
            have hR3 := Lib.hid (row_below hR.out b3)
            have hL3 := Lib.hid (row_below hL.out b3)
            have B3 := below_then hbel b3
            clear v0 v1 v2
            cases r with
            | false =>
              have hF2 := Lib.hid (HM.out 0 (by omega) (by rw [hok.out]; rfl) hF.out)
              go_wp2
              exact ⟨⟨1, by omega, by go_num, hF2, hR3, hL3, B3⟩, by simp [intOf]⟩
            | true =>
              have v0 := cell_row hL3.out 0; have v1 := cell_row hL3.out 1; have v2 := cell_row hL3.out 2
              go_wp2_with fail
              refine (CS.out _).mono ?_
              rintro e w4 ⟨rfl, b4⟩
              have hR4 := Lib.hid (row_below hR3.out b4)
              have hL4 := Lib.hid (row_below hL3.out b4)
              have B4 := below_then B3 b4
              clear v0 v1 v2
              rcases Decidable.em (X = s) with hX | hX
              · have hG := Lib.hid (ref_hit HN.out hz.out hT.out (show 0 < 3 by omega) (hok.out.trans (by simp [hX])))
                subst hX
                have v0 := cell_row hL4.out 0; have v1 := cell_row hL4.out 1; have v2 := cell_row hL4.out 2
                have c0 := cell_row hR4.out 0; have c1 := cell_row hR4.out 1; have c2 := cell_row hR4.out 2
                have f0 := frozen_row hR4.out 0; have f1 := frozen_row hR4.out 1; have f2 := frozen_row hR4.out 2
                go_wp2
                refine bodyPost_ret (v := .tuple #[.agg #[.int .i64 1, .int .i64 z, .string ⟨#[]⟩], .int .i64 0]) (results_row_tmp rfl _ _ w.heap.size 23 _ (0, 0) _ rfl (set3 hR4.out) Tryd.underlying23 rfl (by kernel_rfl) rfl) rfl ⟨?_, below_set3 B4 (Nat.le_refl _)⟩
                obtain ⟨a, b, c, d⟩ := hG.out
                rw [a, b, c, d]
                rfl
              · have hs2 : ¬ X.data = s.data := fun h => hX (ByteArray.ext h)
                have hs3 : ¬ X.toList = s.toList := fun h => hX (by rw [Lib.toList_data, Lib.toList_data] at h; exact ba_ext h)
                have hs4 : (X.toList == s.toList) = false := by simpa using hs3
                have hF2 := Lib.hid (HM.out 0 (by omega) (by rw [hok.out]; simp [hX]) hF.out)
                go_wp2
                exact ⟨⟨1, by omega, by go_num, hF2, hR4, hL4, B4⟩, by simp [intOf]⟩
          · obtain ⟨r, X, hok, CR, CS⟩ : ∃ (r : Bool) (X : ByteArray), Hid (cOk s z T 1 = (r && decide (X = s))) ∧
                Hid (∀ W : World, Calls Tryd.prog 11 #[.agg #[.int .i64 1, .int .i64 (-z), .string ⟨#[]⟩]] W fun e w' => e = .returned (.bool r) ∧ Below W.heap.size W w') ∧
                Hid (∀ W : World, Calls Tryd.prog 17 #[.agg #[.int .i64 1, .int .i64 (-z), .string ⟨#[]⟩]] W fun e w' => e = .returned (.string X) ∧ Below W.heap.size W w') :=
              ⟨_, _, Lib.hid (by rfl), Lib.hid fun W => refRight_any 1 (-z) ⟨#[]⟩ W (by decide), Lib.hid fun W => refShow_any 1 (-z) ⟨#[]⟩ W (by omega) (by omega) (by decide)⟩
            have v0 := cell_row hL.out 3; have v1 := cell_row hL.out 4; have v2 := cell_row hL.out 5
            go_wp2_with fail
            refine (CR.out _).mono ?_
            rintro e w3 ⟨rfl, b3⟩
            have hR3 := Lib.hid (row_below hR.out b3)
            have hL3 := Lib.hid (row_below hL.out b3)
            have B3 := below_then hbel b3
            clear v0 v1 v2
            cases r with
            | false =>
              have hF2 := Lib.hid (HM.out 1 (by omega) (by rw [hok.out]; rfl) hF.out)
              go_wp2
              exact ⟨⟨2, by omega, by go_num, hF2, hR3, hL3, B3⟩, by simp [intOf]⟩
            | true =>
              have v0 := cell_row hL3.out 3; have v1 := cell_row hL3.out 4; have v2 := cell_row hL3.out 5
              go_wp2_with fail
              refine (CS.out _).mono ?_
              rintro e w4 ⟨rfl, b4⟩
              have hR4 := Lib.hid (row_below hR3.out b4)
              have hL4 := Lib.hid (row_below hL3.out b4)
              have B4 := below_then B3 b4
              clear v0 v1 v2
              rcases Decidable.em (X = s) with hX | hX
              · have hG := Lib.hid (ref_hit HN.out hz.out hT.out (show 1 < 3 by omega) (hok.out.trans (by simp [hX])))
                subst hX
                have v0 := cell_row hL4.out 3; have v1 := cell_row hL4.out 4; have v2 := cell_row hL4.out 5
                have c0 := cell_row hR4.out 0; have c1 := cell_row hR4.out 1; have c2 := cell_row hR4.out 2
                have f0 := frozen_row hR4.out 0; have f1 := frozen_row hR4.out 1; have f2 := frozen_row hR4.out 2
                go_wp2
                refine bodyPost_ret (v := .tuple #[.agg #[.int .i64 1, .int .i64 (-z), .string ⟨#[]⟩], .int .i64 0]) (results_row_tmp rfl _ _ w.heap.size 23 _ (0, 0) _ rfl (set3 hR4.out) Tryd.underlying23 rfl (by kernel_rfl) rfl) rfl ⟨?_, below_set3 B4 (Nat.le_refl _)⟩
                obtain ⟨a, b, c, d⟩ := hG.out
                rw [a, b, c, d]
                rfl
              · have hs2 : ¬ X.data = s.data := fun h => hX (ByteArray.ext h)
                have hs3 : ¬ X.toList = s.toList := fun h => hX (by rw [Lib.toList_data, Lib.toList_data] at h; exact ba_ext h)
                have hs4 : (X.toList == s.toList) = false := by simpa using hs3
                have hF2 := Lib.hid (HM.out 1 (by omega) (by rw [hok.out]; simp [hX]) hF.out)
                go_wp2
                exact ⟨⟨2, by omega, by go_num, hF2, hR4, hL4, B4⟩, by simp [intOf]⟩
          · obtain ⟨r, X, hok, CR, CS⟩ : ∃ (r : Bool) (X : ByteArray), Hid (cOk s z T 2 = (r && decide (X = s))) ∧
                Hid (∀ W : World, Calls Tryd.prog 11 #[.agg #[.int .i64 2, .int .i64 0, .string T]] W fun e w' => e = .returned (.bool r) ∧ Below W.heap.size W w') ∧
                Hid (∀ W : World, Calls Tryd.prog 17 #[.agg #[.int .i64 2, .int .i64 0, .string T]] W fun e w' => e = .returned (.string X) ∧ Below W.heap.size W w') :=
              ⟨_, _, Lib.hid (by rfl), Lib.hid fun W => refRight_any 2 0 T W (by omega), Lib.hid fun W => refShow_any 2 0 T W (by omega) (by omega) (by omega)⟩
            have v0 := cell_row hL.out 6; have v1 := cell_row hL.out 7; have v2 := cell_row hL.out 8
            go_wp2_with fail
            refine (CR.out _).mono ?_
            rintro e w3 ⟨rfl, b3⟩
            have hR3 := Lib.hid (row_below hR.out b3)
            have hL3 := Lib.hid (row_below hL.out b3)
            have B3 := below_then hbel b3
            clear v0 v1 v2
            cases r with
            | false =>
              have hF2 := Lib.hid (HM.out 2 (by omega) (by rw [hok.out]; rfl) hF.out)
              go_wp2
              exact ⟨⟨3, by omega, by go_num, hF2, hR3, hL3, B3⟩, by simp [intOf]⟩
            | true =>
              have v0 := cell_row hL3.out 6; have v1 := cell_row hL3.out 7; have v2 := cell_row hL3.out 8
              go_wp2_with fail
              refine (CS.out _).mono ?_
              rintro e w4 ⟨rfl, b4⟩
              have hR4 := Lib.hid (row_below hR3.out b4)
              have hL4 := Lib.hid (row_below hL3.out b4)
              have B4 := below_then B3 b4
              clear v0 v1 v2
              rcases Decidable.em (X = s) with hX | hX
              · have hG := Lib.hid (ref_hit HN.out hz.out hT.out (show 2 < 3 by omega) (hok.out.trans (by simp [hX])))
                subst hX
                have v0 := cell_row hL4.out 6; have v1 := cell_row hL4.out 7; have v2 := cell_row hL4.out 8
                have c0 := cell_row hR4.out 0; have c1 := cell_row hR4.out 1; have c2 := cell_row hR4.out 2
                have f0 := frozen_row hR4.out 0; have f1 := frozen_row hR4.out 1; have f2 := frozen_row hR4.out 2
                go_wp2
                refine bodyPost_ret (v := .tuple #[.agg #[.int .i64 2, .int .i64 0, .string T], .int .i64 0]) (results_row_tmp rfl _ _ w.heap.size 23 _ (0, 0) _ rfl (set3 hR4.out) Tryd.underlying23 rfl (by kernel_rfl) rfl) rfl ⟨?_, below_set3 B4 (Nat.le_refl _)⟩
                obtain ⟨a, b, c, d⟩ := hG.out
                rw [a, b, c, d]
                rfl
              · have hs2 : ¬ X.data = s.data := fun h => hX (ByteArray.ext h)
                have hs3 : ¬ X.toList = s.toList := fun h => hX (by rw [Lib.toList_data, Lib.toList_data] at h; exact ba_ext h)
                have hs4 : (X.toList == s.toList) = false := by simpa using hs3
                have hF2 := Lib.hid (HM.out 2 (by omega) (by rw [hok.out]; simp [hX]) hF.out)
                go_wp2
                exact ⟨⟨3, by omega, by go_num, hF2, hR4, hL4, B4⟩, by simp [intOf]⟩
          · have hG := Lib.hid (ref_miss HN.out hz.out hT.out hF.out)
            have c0 := cell_row hR.out 0; have c1 := cell_row hR.out 1; have c2 := cell_row hR.out 2
            have f0 := frozen_row hR.out 0; have f1 := frozen_row hR.out 1; have f2 := frozen_row hR.out 2
            go_wp2
            refine bodyPost_ret (v := .tuple #[.agg #[.int .i64 0, .int .i64 0, .string ⟨#[]⟩], .int .i64 3]) (results_row_tmp rfl _ _ w.heap.size 23 _ (0, 0) _ rfl (set3 hR.out) Tryd.underlying23 rfl (by kernel_rfl) rfl) rfl ⟨?_, below_set3 hbel (Nat.le_refl _)⟩
            obtain ⟨a, b, c, d⟩ := hG.out
            rw [a, b, c, d]
end Go.Proofs.YtkicjhphiibifaaDoor
