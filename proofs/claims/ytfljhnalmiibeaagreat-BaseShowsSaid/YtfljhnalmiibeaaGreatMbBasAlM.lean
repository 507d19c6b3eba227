/- Several texts laid together: BasAlM, BasFew, BasAlive. -/
import Derived.Test.YtfljhnalmiibeaaGreatMbBasRef
import Derived.Test.YtfljhnalmiibeaaGreatMbBasRight2
import Derived.Test.YtfljhnalmiibeaaGreatMbBasShow
import Derived.Test.YtfljhnalmiibeaaGreatMbBasGet
import Derived.Test.YtfljhnalmiibeaaGreatMbBasPut2
namespace Go.Proofs.YtfljhnalmiibeaaGreat
set_option maxRecDepth 100000
open Go.RowKit
def b13 : List (List LQ) := [[ln13 3 7, ln13 5 7]]
theorem al_put1 : putB13 (List.replicate 1 []) 0 (ln13 5 7) = [[ln13 5 7]] := by rfl
theorem al_put2 : putB13 [[ln13 5 7]] 0 (ln13 3 7) = b13 := by rfl
theorem al_get5 : getB13 b13 0 5 = some (ln13 5 7) := by rfl
theorem al_get4 : getB13 b13 0 4 = none := by rfl
theorem al_drop : dropB13 b13 0 3 = [[ln13 5 7]] := by rfl
theorem al_wrote : wroteL (ln13 5 7) ⟨1, 2⟩ = ⟨5, (ln13 5 7).cs, [⟨1, 1⟩, ⟨1, 2⟩]⟩ := by rfl
theorem al_show : showQ ⟨0, ⟨1, 4, ⟨#[]⟩⟩, []⟩ = ⟨1, 4, ⟨#[]⟩⟩ := by rfl
theorem al_lines : linesB b13 0 = [ln13 3 7, ln13 5 7] := by rfl
theorem al_row (k : Int) : rowQ (ln13 k 7) = [⟨1, k, ⟨#[]⟩⟩, ⟨1, 1, ⟨#[]⟩⟩] := by
  have h : showQ ⟨3, ⟨0, 0, ⟨#[]⟩⟩, [pt13 7]⟩ = ⟨1, 1, ⟨#[]⟩⟩ := by
    have hn : numsB [pt13 7] = [7] := by
      show Lib.compact (List.mergeSort [(7 : Int)] fun x y => decide (x ≤ y)) = [7]
      rw [List.mergeSort_of_pairwise (List.pairwise_singleton _ _)]
      rfl
    simp [showQ, hn]
  have h2 : showQ ⟨0, ⟨1, k, ⟨#[]⟩⟩, []⟩ = ⟨1, k, ⟨#[]⟩⟩ := by rfl
  simp [rowQ, ln13, h, h2]
theorem al_none (a : Option Addr) : baseOk [t13 a] [] = false := by simp [baseOk]
theorem al_rightE (a : Option Addr) : rightE [t13 a] = 0 := by rfl
theorem al_set : rightS 3 ⟨0, 0, ⟨#[]⟩⟩ [pt13 7] = true := by
  have h : RightB [pt13 7] := by
    refine ⟨fun p hp => ?_, ?_⟩
    · obtain rfl := List.mem_singleton.1 hp; rfl
    · exact List.pairwise_singleton _ _
  have hz : (⟨0, 0, ⟨#[]⟩⟩ : V3) = zeroV := rfl
  rw [hz]
  simp [rightS, h]
theorem al_cells (k : Int) (i : Nat) (hi : i < 2) (hk : 0 ≤ k ∧ k < 1073741824) : cellAt [id13, s13] (ln13 k 7).cs i = true := by
  rcases i with _ | _ | i
  · have h : rightZ 1 k (⟨#[]⟩ : ByteArray).size = true := by
      show rightZ 1 k 0 = true
      simp [rightZ]
      try omega
    simp [cellAt, ln13, id13, cellOk, V3.right, h]
  · simp [cellAt, ln13, s13, cellOk, al_set]
  · omega
theorem al_line (k : Int) (hk : 0 ≤ k ∧ k < 1073741824) : lineOk [id13, s13] (ln13 k 7) = true := by
  have h1 : allN (ln13 k 7).cs.length (cellAt [id13, s13] (ln13 k 7).cs) = true := allN_iff.2 fun i hi => al_cells k i hi hk
  have h2 : dotsOk (ln13 k 7).by_ = true := by show dotsOk [⟨1, 1⟩] = true; rfl
  unfold lineOk
  rw [h1, h2]
  simp [ln13, hk]
theorem al_right (a : Option Addr) : baseOk [t13 a] b13 = true := by
  have h1 : linesOk [id13, s13] [ln13 3 7, ln13 5 7] = true := by
    have h2 : allN 2 (lineAt [id13, s13] [ln13 3 7, ln13 5 7]) = true := allN_iff.2 fun i hi => by
      rcases i with _ | _ | i
      · simp [lineAt, al_line 3 (by omega)]
      · simp [lineAt, al_line 5 (by omega)]; simp [ln13]
      · omega
    simp [linesOk, h2]
  unfold baseOk
  rw [al_rightE]
  have h3 : allN 1 (fun i => linesOk (([t13 a] : List T6).getD i default).cols (linesB b13 i)) = true := allN_iff.2 fun i hi => by
    obtain rfl : i = 0 := by omega
    exact h1
  simp [b13] at h3 ⊢
  exact h3
end Go.Proofs.YtfljhnalmiibeaaGreat

namespace Go.Proofs.YtfljhnalmiibeaaGreat
set_option maxRecDepth 100000
open Go.RowKit
def manyL (b : List (List LQ)) : Nat := (b.map List.length).sum
/-- a base of a size that is looked at -/
structure FewB (b : List (List LQ)) : Prop where
  tabs : b.length ≤ 20
  many : manyL b ≤ 100
  each : ∀ l ∈ b, ∀ y ∈ l, SmallL y
theorem manyL_next {b : List (List LQ)} {k : Nat} {l : List LQ} (h : b[k]? = some l) : manyL (b.take (k + 1)) = manyL (b.take k) + l.length := by
  unfold manyL
  rw [List.take_add_one, h]; simp
theorem manyL_le {b : List (List LQ)} {l : List LQ} (h : l ∈ b) : l.length ≤ manyL b := by
  unfold manyL
  induction b with
  | nil => cases h
  | cons x b ih =>
    rw [List.map_cons, List.sum_cons]
    rcases List.mem_cons.1 h with rfl | h
    · omega
    · have := ih h; omega
theorem manyL_take (b : List (List LQ)) (k : Nat) : manyL (b.take k) ≤ manyL b := by
  have : manyL b = manyL (b.take k) + manyL (b.drop k) := by
    unfold manyL
    rw [← List.sum_append, ← List.map_append, List.take_append_drop]
  omega
theorem FewB.ok {b : List (List LQ)} (h : FewB b) : BaseOk b := ⟨by have := h.tabs; omega, fun l hl => by have := manyL_le hl; have := h.many; omega, fun l hl y hy => (h.each l hl y hy).ok⟩
theorem small_next {l : List LQ} {k : Nat} {x : LQ} (h : ∀ c ∈ l.take k, SmallL c) (hx : l[k]? = some x) (hl : SmallL x) : ∀ c ∈ l.take (k + 1), SmallL c := by
  intro c hc
  rw [List.take_add_one, hx] at hc
  rcases List.mem_append.1 hc with h1 | h1
  · exact h c h1
  · simp at h1; subst h1; exact hl
/-- what the count tells while there are not too many tables -/
def CountIs (b : List (List LQ)) (k : Nat) (z : Int) : Prop := k ≤ 20 → z = (manyL (b.take k) : Nat) ∧ (manyL (b.take k) ≤ 100 → ∀ i l, i < k → b[i]? = some l → ∀ y ∈ l, SmallL y)
set_option maxHeartbeats 12800000 in
theorem few13_any (A : Option Addr) (n c : Nat) (b : List (List LQ)) (w : World) (h : RdB w A n c b) (hL : ∀ l ∈ b, l.length ≤ 140737488355328) :
    Calls Tryz.prog 10 #[.agg #[.slice A n c]] w fun e w' => TellsIf (FewB b) w e w' := by
  have hle := h.le
  have HLA : Hid (b.length = n) := h.len
  obtain ⟨w1, hw1⟩ : ∃ w1, w1 = (w.alloc (baseBox A n c)) := ⟨_, rfl⟩
  have HW := Lib.hid hw1
  have r0 : w1.heap[w.heap.size]? = some (baseBox A n c) := by rw [hw1]; exact new_row13 _ _ rfl
  have b1 : Below w.heap.size w w1 := by rw [hw1]; exact below_new (Below.refl _ _) _
  have sz : w1.heap.size = w.heap.size + 1 := by rw [hw1]; simp only [World.size_alloc]
  have R0 := Lib.hid r0; have B1 := Lib.hid b1
  have HA := Lib.hid h
  have HLL : Hid (∀ (k : Nat) (l : List LQ), b[k]? = some l → l.length ≤ 140737488355328) := by show ∀ (k : Nat) (l : List LQ), b[k]? = some l → l.length ≤ 140737488355328; intro k l hl; exact hL l (List.mem_of_getElem? hl)
  have HS20 : Hid (∀ k : Nat, k ≤ 20 → manyL (b.take k) ≤ 20 * 140737488355328) := by
    show ∀ k : Nat, k ≤ 20 → manyL (b.take k) ≤ 20 * 140737488355328
    intro k hk
    unfold manyL
    have : ∀ (m : List Nat) (q : Nat), (∀ x ∈ m, x ≤ 140737488355328) → m.length ≤ q → m.sum ≤ q * 140737488355328 := by
      intro m
      induction m with
      | nil => intro q _ _; simp
      | cons x m ih =>
        intro q hx hq
        rw [List.sum_cons]
        simp only [List.length_cons] at hq
        have h1 := hx x List.mem_cons_self
        have h2 := ih (q - 1) (fun y hy => hx y (List.mem_cons_of_mem _ hy)) (by omega)
        omega
    refine this _ 20 (fun x hx => ?_) (by simp only [List.length_map, List.length_take]; omega)
    obtain ⟨l, hl, rfl⟩ := List.mem_map.1 hx
    exact hL l (List.mem_of_mem_take hl)
  have p0 := base_row r0
  clear h r0 b1 sz hw1 hL
  go_enter Tryz.func10, Tryz.ntmps10
  go_upto_region 1 with fail
  rw [show (w.alloc (baseBox A n c)) = w1 from HW.out.symm]
  clear HW
  go_wp2_with fail
  clear p0
  go_loopw [3, 4] (fun s i wr => ∃ (k : Nat) (z : Int), k ≤ n ∧ i = .int .i64 k ∧ s = .int .i64 z ∧ Hid (CountIs b k z) ∧ Hid (wr.heap[w.heap.size]? = some (baseBox A n c)) ∧ Hid (Below w.heap.size w wr)) (fun _ i _ => n - (intOf i).toNat)
  case atStart => exact ⟨0, 0, Nat.zero_le _, rfl, rfl, fun _ => ⟨rfl, fun _ i l h => absurd h (by omega)⟩, R0, B1⟩
  case round =>
    clear R0 B1
    obtain ⟨k, z, hk, rfl, rfl, HC, R0, B1⟩ := hrel
    have p0 := base_row R0.out
    by_cases hlt : k < n
    · obtain ⟨ba, oa, xa, la, rfl, hba, hxa, hra, hca⟩ := HA.out.data13 hlt
      have d0 := hca wr B1.out
      have y1 : (k : Int) < (n : Int) := by omega
      have y0 : (0 : Int) ≤ (k : Int) := by omega
      have HLa : Hid (la.length = xa.n) := hra.len
      have hxl := hra.le
      have HRa := Lib.hid hra; have HXa := Lib.hid hxa; have HCA := Lib.hid hca
      obtain ⟨xaA, xan, xac⟩ := xa
      dsimp only at d0 HRa hxl HLa HCA
      clear hca hxa hra hba
      obtain ⟨z2, hz2⟩ : ∃ z2, Hid (IntKind.i64.wrap (z + (xan : Int)) = z2) := ⟨_, rfl⟩
      have hzz := hz2.out
      have HZ : Hid (k + 1 ≤ 20 → z2 = (manyL (b.take (k + 1)) : Nat)) := by
        show k + 1 ≤ 20 → _
        intro h20
        have h1 := (HC.out (by omega)).1
        have h2 := HS20.out k (by omega)
        have h3 := HLL.out k la HXa.out
        rw [← hz2.out, manyL_next HXa.out, h1, HLa.out, wrap_is (by have := HLa.out; omega)]
        omega
      go_wp2_with fail
      clear p0 d0 hzz
      go_loopw [5] (fun i wr => ∃ j : Nat, j ≤ xan ∧ i = .int .i64 j ∧ Hid (∀ y ∈ la.take j, SmallL y) ∧ Hid (wr.heap[w.heap.size]? = some (baseBox (some ⟨ba, oa, none⟩) n c)) ∧ Hid (Below w.heap.size w wr)) (fun i _ => xan - (intOf i).toNat)
      case atStart => exact ⟨0, Nat.zero_le _, rfl, by intro y hy; simp at hy, R0, B1⟩
      case round =>
        clear R0 B1
        obtain ⟨j, hj, rfl, HT2, R0, B1⟩ := hrel
        have p0 := base_row R0.out
        have d0 := HCA.out wr B1.out
        by_cases hlt2 : j < xan
        · have z1 : (j : Int) < (xan : Int) := by omega
          have z0 : (0 : Int) ≤ (j : Int) := by omega
          by_cases hz100 : z2 ≤ 100
          · obtain ⟨b1_, o1, x1, y1_, rfl, hb1, hx1, hr1, hc1⟩ := HRa.out.line13 hlt2
            obtain ⟨e0, e1, e2⟩ := hc1 wr B1.out
            have C1 := Lib.hid (small13_any x1 y1_ wr (hr1.below B1.out))
            have HX1 := Lib.hid hx1
            clear hc1 hx1 hr1 hb1
            go_wp2_with (go_at_call 28; refine C1.out.mono ?_; rintro e w2 ⟨q, rfl, hq, b2⟩; have HQ := Lib.hid hq; have HB3 := Lib.hid (below_then B1.out b2); have U0 := Lib.hid (row_below R0.out b2); clear hq b2 p0 d0 e0 e1 e2; rcases q with _ | _)
            · go_wp2_with fail
              go_ret
              exact ⟨false, rfl, (fun h => by cases h), HB3.out⟩
            · have HN := Lib.hid (small_next HT2.out HX1.out (HQ.out trivial))
              go_wp2_with fail
              exact ⟨⟨j + 1, by omega, by go_num, HN, U0, HB3⟩, by simp [intOf]; omega⟩
          · have HNC : Hid (CountIs b (k + 1) z2) := by
              show _ → _
              intro h20
              have h1 := HZ.out h20
              exact ⟨h1, fun h2 => absurd hz100 (by omega)⟩
            go_wp2_with fail
            exact ⟨⟨k + 1, z2, by omega, by go_num, rfl, HNC, R0, B1⟩, by simp [intOf]; omega⟩
        · have hje : j = xan := by omega
          have z1 : ¬ (j : Int) < (xan : Int) := by omega
          have HNC : Hid (CountIs b (k + 1) z2) := by
            show _ → _
            intro h20
            refine ⟨HZ.out h20, fun h2 i l hi hl => ?_⟩
            rcases Nat.lt_succ_iff_lt_or_eq.1 hi with h3 | h3
            · have h4 := (HC.out (by omega)).2
              refine h4 (by have h5 := manyL_next HXa.out; omega) i l h3 hl
            · subst h3
              rw [HXa.out] at hl; injection hl with hl; subst hl
              intro y hy
              refine HT2.out y ?_
              rwa [List.take_of_length_le (by rw [HLa.out, hje]; exact Nat.le_refl _)]
          clear hje
          go_wp2_with fail
          exact ⟨⟨k + 1, z2, by omega, by go_num, rfl, HNC, R0, B1⟩, by simp [intOf]; omega⟩
    · have hke : k = n := by omega
      have y1 : ¬ (k : Int) < (n : Int) := by omega
      have HF : Hid (n ≤ 20 → z ≤ 100 → FewB b) := by
        show _ → _ → _
        intro h1 h2
        obtain ⟨h3, h4⟩ := HC.out (by omega)
        have h5 : b.take k = b := List.take_of_length_le (by rw [HLA.out, hke]; exact Nat.le_refl _)
        rw [h5] at h3 h4
        have h6 := h4 (by omega)
        refine ⟨by rw [HLA.out]; exact h1, by omega, fun l hl => ?_⟩
        obtain ⟨i, hi, he⟩ := List.getElem_of_mem hl
        exact h6 i l (by have := HLA.out; omega) (by rw [List.getElem?_eq_getElem hi, he])
      clear hke
      by_cases h20 : n ≤ 20
      · by_cases h100 : z ≤ 100
        · have hzi : (n : Int) ≤ 20 := by omega
          go_wp2_with fail
          go_ret
          exact ⟨true, ret_bool (by simp), fun _ => HF.out h20 h100, B1.out⟩
        · have hzi : (n : Int) ≤ 20 := by omega
          go_wp2_with fail
          go_ret
          exact ⟨false, ret_bool (by simp), (fun h => by cases h), B1.out⟩
      · have hzi : ¬ (n : Int) ≤ 20 := by omega
        go_wp2_with fail
        go_ret
        exact ⟨false, ret_bool (by simp), (fun h => by cases h), B1.out⟩
end Go.Proofs.YtfljhnalmiibeaaGreat

namespace Go.Proofs.YtfljhnalmiibeaaGreat
set_option maxRecDepth 100000
open Go.RowKit
theorem ln_ok (k n : Int) : LineOk (ln13 k n) := ⟨by show (1 : Nat) ≤ _; decide, by show (2 : Nat) ≤ _; decide, fun c hc => by
  rcases List.mem_cons.1 hc with rfl | hc
  · exact Nat.zero_le _
  · obtain rfl := List.mem_singleton.1 hc
    show (1 : Nat) ≤ _; decide⟩
theorem ok_tabs {l : List LQ} (hl : l.length ≤ 4) (h : ∀ y ∈ l, LineOk y) : BaseOk [l] := ⟨by show (1 : Nat) ≤ _; decide, fun m hm => by
  obtain rfl := List.mem_singleton.1 hm
  omega, fun m hm => by
  obtain rfl := List.mem_singleton.1 hm
  exact h⟩
theorem ok_zero : BaseOk (List.replicate 1 []) := ok_tabs (by decide) (fun y hy => by cases hy)
theorem ok_one : BaseOk [[ln13 5 7]] := ok_tabs (by decide) (fun y hy => by obtain rfl := List.mem_singleton.1 hy; exact ln_ok _ _)
theorem ok_b13 : BaseOk b13 := ok_tabs (by decide) (fun y hy => by
  rcases List.mem_cons.1 hy with rfl | hy
  · exact ln_ok _ _
  · obtain rfl := List.mem_singleton.1 hy; exact ln_ok _ _)
theorem ok_nil : BaseOk [] := ⟨Nat.zero_le _, fun l hl => (by cases hl), fun l hl => (by cases hl)⟩
theorem al_new (A : Option Addr) (w : World) : Calls Tryz.prog 15 #[.agg #[.slice A 1 1]] w fun e w' => ∃ (xa : Option Addr) (xc : Nat), e = .returned (.agg #[.slice xa 1 xc]) ∧ RdB w' xa 1 xc (List.replicate 1 []) ∧ Below w.heap.size w w' := by
  refine (new13_any A 1 1 w (by decide)).mono ?_
  rintro e w' ⟨⟨xa, xn, xc⟩, rfl, h, b⟩
  have h2 := h w' (Agree.refl _ _ _)
  obtain rfl : 1 = xn := h2.len
  exact ⟨xa, xc, rfl, h2, b⟩
theorem al_put {A : Option Addr} {c : Nat} {b : List (List LQ)} {x : LnR} {y : LQ} {w : World} {B : List (List LQ)} (h : RdB w A 1 c b) (hb : BaseOk b) (hx : LineR w x y) (hs : LineOk y) (hB : putB13 b 0 y = B) : Calls Tryz.prog 18 #[.agg #[.slice A 1 c], .int .i64 0, x.agg] w fun e w' => ∃ (xa : Option Addr) (xc : Nat), e = .returned (.agg #[.slice xa 1 xc]) ∧ RdB w' xa 1 xc B ∧ Below w.heap.size w w' := by
  refine (put13_any A 1 c b 0 x y w w h (Below.refl _ _) hb hx hs).mono ?_
  rintro e w' ⟨⟨xa, xn, xc⟩, rfl, h, ⟨rfl, _⟩, b⟩
  rw [hB] at h
  exact ⟨xa, xc, rfl, h w' (Agree.refl _ _ _), b⟩
theorem al_drop3 {A : Option Addr} {c : Nat} {w : World} (h : RdB w A 1 c b13) : Calls Tryz.prog 20 #[.agg #[.slice A 1 c], .int .i64 0, .int .i64 3] w fun e w' => ∃ (xa : Option Addr) (xc : Nat), e = .returned (.agg #[.slice xa 1 xc]) ∧ RdB w' xa 1 xc [[ln13 5 7]] ∧ Below w.heap.size w w' := by
  refine (drop13_any A 1 c b13 0 3 w w h (Below.refl _ _) ok_b13).mono ?_
  rintro e w' ⟨⟨xa, xn, xc⟩, rfl, h, ⟨rfl, _⟩, b⟩
  rw [al_drop] at h
  exact ⟨xa, xc, rfl, h w' (Agree.refl _ _ _), b⟩
theorem al_get {A : Option Addr} {c : Nat} {w : World} {k : Int} {o : Option LQ} {q : Bool} (h : RdB w A 1 c b13) (ho : getB13 b13 0 k = o) (hq : o.isSome = q) : Calls Tryz.prog 25 #[.agg #[.slice A 1 c], .int .i64 0, .int .i64 k] w fun e w' => ∃ z : LnR, e = .returned (.tuple #[z.agg, .bool q]) ∧ LineR w' z (o.getD noLine) ∧ Below w.heap.size w w' := by
  refine (get13_any A 1 c b13 0 k w w h (Below.refl _ _) ok_b13).mono ?_
  rintro e w' ⟨z, rfl, h, b⟩
  rw [ho] at h ⊢
  rw [hq]
  exact ⟨z, rfl, h w' (Agree.refl _ _ _), b⟩
theorem al_wrote2 {x : LnR} {w : World} (h : LineR w x (ln13 5 7)) : Calls Tryz.prog 23 #[x.agg, .agg #[.int .i64 1, .int .i64 2]] w fun e w' => ∃ z : LnR, e = .returned z.agg ∧ LineR w' z ⟨5, (ln13 5 7).cs, [⟨1, 1⟩, ⟨1, 2⟩]⟩ ∧ Below w.heap.size w w' := by
  refine (wrote13_any x _ ⟨1, 2⟩ w w h (Below.refl _ _) (ln_ok _ _)).mono ?_
  rintro e w' ⟨z, rfl, h, b⟩
  rw [al_wrote] at h
  exact ⟨z, rfl, h w' (Agree.refl _ _ _), b⟩
theorem al_shown {A : Option Addr} {c : Nat} {w : World} (h : RdB w A 1 c b13) : Calls Tryz.prog 26 #[.agg #[.slice A 1 c], .int .i64 0] w fun e w' => ∃ (rb ro rc rb0 ro0 rc0 rb1 ro1 rc1 : Nat), e = .returned (.slice (some ⟨rb, ro, none⟩) 2 rc)
    ∧ w'.cell? ⟨rb, ro, none⟩ = some (.slice (some ⟨rb0, ro0, none⟩) 2 rc0) ∧ w'.cell? ⟨rb, ro + 1, none⟩ = some (.slice (some ⟨rb1, ro1, none⟩) 2 rc1) ∧ w'.cell? ⟨rb0, ro0 + 1, none⟩ = some (.int .i64 3)
    ∧ w'.cell? ⟨rb1, ro1 + 3, none⟩ = some (.int .i64 1) ∧ w'.cell? ⟨rb1, ro1 + 4, none⟩ = some (.int .i64 1) ∧ w'.cell? ⟨rb1, ro1 + 5, none⟩ = some (.string ⟨#[]⟩) ∧ Below w.heap.size w w' := by
  refine (shown13_any A 1 c b13 0 w w h (Below.refl _ _) ok_b13).mono ?_
  rintro e w' ⟨⟨za, zn, zc⟩, rfl, h, b⟩
  rw [al_lines, show List.map rowQ [ln13 3 7, ln13 5 7] = [rowQ (ln13 3 7), rowQ (ln13 5 7)] from rfl, al_row, al_row] at h
  obtain rfl : 2 = zn := h.len
  obtain ⟨rb, ro, ⟨x0, n0, rc0⟩, y0, ha, _, e0, h0, c0⟩ := h.at_ (k := 0) (by show (0 : Nat) < 2; decide)
  obtain ⟨_, _, ⟨x1, n1, rc1⟩, y1, ha1, _, e1, h1, c1⟩ := h.at_ (k := 1) (by show (1 : Nat) < 2; decide)
  dsimp only at ha ha1 h0 h1
  subst ha
  cases ha1
  cases e0
  cases e1
  obtain rfl : 2 = n0 := h0.len
  obtain rfl : 2 = n1 := h1.len
  obtain ⟨rb0, ro0, v0, rfl, _, f0, d0⟩ := h0.at_ (k := 0) (by decide)
  obtain ⟨rb1, ro1, v1, rfl, _, f1, d1⟩ := h1.at_ (k := 1) (by decide)
  cases f0
  cases f1
  have a0 := c0 0 _ rfl
  have a1 := c1 0 _ rfl
  have a2 := d0 1 _ rfl
  have a3 := d1 0 _ rfl
  have a4 := d1 1 _ rfl
  have a5 := d1 2 _ rfl
  simp only [Nat.zero_mul, Nat.one_mul, Nat.add_zero, Nat.mul_one, Nat.add_assoc, Nat.reduceAdd] at a0 a1 a2 a3 a4 a5
  exact ⟨rb, ro, zc, rb0, ro0, rc0, rb1, ro1, rc1, rfl, a0, a1, a2, a3, a4, a5, b⟩
theorem al_base_row {w : World} {A : Option Addr} {c : Nat} {l : List LQ} {m : Nat} (h : RdB w A 1 c [l]) (hm : l.length = m) : ∃ b o la lc, A = some ⟨b, o, none⟩ ∧ w.cell? ⟨b, o, none⟩ = some (.slice la m lc) := by
  obtain ⟨b, o, ⟨la, n, lc⟩, y, ha, _, e0, h0, c0⟩ := h.at_ (k := 0) (by decide)
  cases e0
  subst hm
  obtain rfl : l.length = n := h0.len
  have a0 := c0 0 _ rfl
  rw [Nat.zero_mul, Nat.add_zero] at a0
  exact ⟨b, o, la, lc, ha, a0⟩
theorem al_rightT {SA : Option Addr} {a : Option Addr} {A : Option Addr} {c : Nat} {W : World} (h : RdS11 W SA 1 1 [t13 a]) (hb : RdB W A 1 c b13) : Calls Tryz.prog 12 #[.agg #[.slice SA 1 1], .agg #[.slice A 1 c]] W fun e w' => e = .returned (.bool true) ∧ Below W.heap.size W w' := by
  rw [← al_right a]; exact right13_any SA 1 1 _ A 1 c _ W h hb ok_b13
theorem al_rightF {SA : Option Addr} {a : Option Addr} {W : World} (h : RdS11 W SA 1 1 [t13 a]) : Calls Tryz.prog 12 #[.agg #[.slice SA 1 1], .agg #[.slice none 0 0]] W fun e w' => e = .returned (.bool false) ∧ Below W.heap.size W w' := by
  rw [← al_none a]; exact right13_any SA 1 1 _ none 0 0 _ W h (RdR.nil_ _) ok_nil
theorem al_dots {B : Option Addr} {d : Nat} {W0 W : World} (h : RdD W0 B 2 d [⟨1, 1⟩, ⟨1, 2⟩]) (hW : Below W0.heap.size W0 W) : Calls Tryz.prog 31 #[.slice B 2 d, .slice (some ⟨W.heap.size, 0, none⟩) 2 2] (W.alloc (.cells #[.int .i64 1, .int .i64 1, .int .i64 1, .int .i64 2] 40)) fun e w' => e = .returned (.bool true) ∧ Below (W.alloc (.cells #[.int .i64 1, .int .i64 1, .int .i64 1, .int .i64 2] 40)).heap.size (W.alloc (.cells #[.int .i64 1, .int .i64 1, .int .i64 1, .int .i64 2] 40)) w' := by
  refine (refDots_any B _ 2 2 d 2 [⟨1, 1⟩, ⟨1, 2⟩] [⟨1, 1⟩, ⟨1, 2⟩] _ (h.below (below_new hW _)) (rdg_new d2len W [⟨1, 1⟩, ⟨1, 2⟩] _ _ rfl rfl (by decide) rfl)).mono ?_
  rintro e w' ⟨rfl, b⟩
  exact ⟨by rw [decide_eq_true rfl], b.below _⟩
theorem al_show4 (W : World) : Calls Tryz.prog 27 #[.agg #[.int .i64 0, .int .i64 1, .int .i64 4, .string ⟨#[]⟩, .slice none 0 0]] W fun e w' => e = .returned (.agg #[.int .i64 1, .int .i64 4, .string ⟨#[]⟩]) ∧ Below W.heap.size W w' := by
  have := show13_any ⟨0, ⟨1, 4, ⟨#[]⟩⟩, none, 0, 0⟩ ⟨0, ⟨1, 4, ⟨#[]⟩⟩, []⟩ W ⟨rfl, rfl, RdG.nil_ _⟩ (Nat.zero_le _)
  rw [al_show] at this
  exact this
set_option maxHeartbeats 12800000 in
theorem alive13_any (w : World) : Calls Tryz.prog 11 #[] w fun e w' => e = .returned (.bool true) ∧ Below w.heap.size w w' := by
  go_enter Tryz.func11, Tryz.ntmps11
  go_wp2_with fail
  refine (some13_any _).mono ?_
  rintro e w2 ⟨A, a, rfl, hs, b⟩
  have HB := Lib.hid b
  have HS := Lib.hid hs
  clear b hs
  obtain ⟨w3, hw3⟩ : ∃ V, V = w2.alloc (schBox A 1 1) := ⟨_, rfl⟩
  have Hw3 := Lib.hid hw3
  have bn : Below w2.heap.size w2 w3 := by rw [hw3]; exact below_new (Below.refl _ _) _
  have R1 : Hid (w3.heap[w2.heap.size]? = some (schBox A 1 1)) := by rw [hw3]; exact heap_alloc_new _ _
  replace HB := Lib.hid (below_then HB.out bn)
  replace HS := Lib.hid (HS.out.below bn)
  clear bn hw3
  go_upto_region 2 with fail
  rw [show w2.alloc (schBox A 1 1) = w3 from Hw3.out.symm]
  clear Hw3
  generalize w2.heap.size = g1 at R1 ⊢
  have s1 := sch_row R1.out
  go_wp2_with fail
  refine (al_new A _).mono ?_
  rintro e w4 ⟨xa, xc, rfl, h, b⟩
  replace R1 := Lib.hid (row_below R1.out b)
  replace HB := Lib.hid (below_then HB.out b)
  replace HS := Lib.hid (HS.out.below b)
  have RB := Lib.hid h
  clear h b
  go_wp2_with fail
  refine (ln13_any 5 7 _).mono ?_
  rintro e w5 ⟨z5, rfl, h, b⟩
  replace R1 := Lib.hid (row_below R1.out b)
  replace HB := Lib.hid (below_then HB.out b)
  replace HS := Lib.hid (HS.out.below b)
  replace RB := Lib.hid (RB.out.below dataR_keeps b)
  have L5 := Lib.hid h
  clear h b
  go_wp2_with fail
  refine (al_put RB.out ok_zero L5.out (ln_ok _ _) al_put1).mono ?_
  rintro e w6 ⟨ya, yc, rfl, h, b⟩
  replace R1 := Lib.hid (row_below R1.out b)
  replace HB := Lib.hid (below_then HB.out b)
  replace HS := Lib.hid (HS.out.below b)
  clear RB L5
  have RB := Lib.hid h
  clear h b
  go_wp2_with fail
  refine (ln13_any 3 7 _).mono ?_
  rintro e w7 ⟨z7, rfl, h, b⟩
  replace R1 := Lib.hid (row_below R1.out b)
  replace HB := Lib.hid (below_then HB.out b)
  replace HS := Lib.hid (HS.out.below b)
  replace RB := Lib.hid (RB.out.below dataR_keeps b)
  have L7 := Lib.hid h
  clear h b
  go_wp2_with fail
  refine (al_put RB.out ok_one L7.out (ln_ok _ _) al_put2).mono ?_
  rintro e w8 ⟨z8a, z8c, rfl, h, b⟩
  replace R1 := Lib.hid (row_below R1.out b)
  replace HB := Lib.hid (below_then HB.out b)
  replace HS := Lib.hid (HS.out.below b)
  clear RB L7 s1
  have RB := Lib.hid h
  clear h b
  obtain ⟨w9, hw9⟩ : ∃ V, V = w8.alloc (baseBox z8a 1 z8c) := ⟨_, rfl⟩
  have Hw9 := Lib.hid hw9
  have bn : Below w8.heap.size w8 w9 := by rw [hw9]; exact below_new (Below.refl _ _) _
  have R2 : Hid (w9.heap[w8.heap.size]? = some (baseBox z8a 1 z8c)) := by rw [hw9]; exact heap_alloc_new _ _
  replace R1 := Lib.hid (row_below R1.out bn)
  replace HB := Lib.hid (below_then HB.out bn)
  replace HS := Lib.hid (HS.out.below bn)
  replace RB := Lib.hid (RB.out.below dataR_keeps bn)
  clear bn hw9
  go_upto_region 3 with fail
  rw [show w8.alloc (baseBox z8a 1 z8c) = w9 from Hw9.out.symm]
  clear Hw9
  generalize w8.heap.size = g2 at R2 ⊢
  have s2 := base_row R2.out
  go_wp2_with fail
  refine (al_get RB.out al_get5 rfl).mono ?_
  rintro e w10 ⟨z10, rfl, h, b⟩
  replace R1 := Lib.hid (row_below R1.out b)
  replace R2 := Lib.hid (row_below R2.out b)
  replace HB := Lib.hid (below_then HB.out b)
  replace HS := Lib.hid (HS.out.below b)
  replace RB := Lib.hid (RB.out.below dataR_keeps b)
  have L10 := Lib.hid h
  clear h b s2
  obtain ⟨w11, hw11⟩ : ∃ V, V = w10.alloc (lineBox z10) := ⟨_, rfl⟩
  have Hw11 := Lib.hid hw11
  have bn : Below w10.heap.size w10 w11 := by rw [hw11]; exact below_new (Below.refl _ _) _
  have R3 : Hid (w11.heap[w10.heap.size]? = some (lineBox z10)) := by rw [hw11]; exact heap_alloc_new _ _
  replace R1 := Lib.hid (row_below R1.out bn)
  replace R2 := Lib.hid (row_below R2.out bn)
  replace HB := Lib.hid (below_then HB.out bn)
  replace HS := Lib.hid (HS.out.below bn)
  replace RB := Lib.hid (RB.out.below dataR_keeps bn)
  replace L10 := Lib.hid (L10.out.below bn)
  clear bn hw11
  go_upto_region 4 with fail
  rw [show w10.alloc (lineBox z10) = w11 from Hw11.out.symm]
  clear Hw11
  generalize w10.heap.size = g3 at R3 ⊢
  have s2 := base_row R2.out
  go_wp2_with fail
  refine (al_get RB.out al_get4 rfl).mono ?_
  rintro e w12 ⟨z12, rfl, h, b⟩
  replace R1 := Lib.hid (row_below R1.out b)
  replace R2 := Lib.hid (row_below R2.out b)
  replace R3 := Lib.hid (row_below R3.out b)
  replace HB := Lib.hid (below_then HB.out b)
  replace HS := Lib.hid (HS.out.below b)
  replace RB := Lib.hid (RB.out.below dataR_keeps b)
  replace L10 := Lib.hid (L10.out.below b)
  clear h b s2
  obtain ⟨w13, hw13⟩ : ∃ V, V = w12.alloc (lineBox z12) := ⟨_, rfl⟩
  have Hw13 := Lib.hid hw13
  have bn : Below w12.heap.size w12 w13 := by rw [hw13]; exact below_new (Below.refl _ _) _
  have R5 : Hid (w13.heap[w12.heap.size]? = some (lineBox z12)) := by rw [hw13]; exact heap_alloc_new _ _
  replace R1 := Lib.hid (row_below R1.out bn)
  replace R2 := Lib.hid (row_below R2.out bn)
  replace R3 := Lib.hid (row_below R3.out bn)
  replace HB := Lib.hid (below_then HB.out bn)
  replace HS := Lib.hid (HS.out.below bn)
  replace RB := Lib.hid (RB.out.below dataR_keeps bn)
  replace L10 := Lib.hid (L10.out.below bn)
  clear bn hw13
  go_upto_region 5 with fail
  rw [show w12.alloc (lineBox z12) = w13 from Hw13.out.symm]
  clear Hw13
  generalize w12.heap.size = g5 at R5 ⊢
  have s2 := base_row R2.out
  go_wp2_with fail
  refine (al_shown RB.out).mono ?_
  rintro e w14 ⟨rb, ro, rc, rb0, ro0, rc0, rb1, ro1, rc1, rfl, k1, k2, k3, k4, k5, k6, b⟩
  replace R1 := Lib.hid (row_below R1.out b)
  replace R2 := Lib.hid (row_below R2.out b)
  replace R3 := Lib.hid (row_below R3.out b)
  replace R5 := Lib.hid (row_below R5.out b)
  replace HB := Lib.hid (below_then HB.out b)
  replace HS := Lib.hid (HS.out.below b)
  replace RB := Lib.hid (RB.out.below dataR_keeps b)
  replace L10 := Lib.hid (L10.out.below b)
  have T0 := Lib.hid (Below.refl w14.heap.size w14)
  have Q1 := Lib.hid k1
  have Q2 := Lib.hid k2
  have Q3 := Lib.hid k3
  have Q4 := Lib.hid k4
  have Q5 := Lib.hid k5
  have Q6 := Lib.hid k6
  clear k1 k2 k3 k4 k5 k6 b s2
  have s2 := base_row R2.out
  go_wp2_with fail
  refine (al_drop3 RB.out).mono ?_
  rintro e w15 ⟨da, dc, rfl, h, b⟩
  replace R1 := Lib.hid (row_below R1.out b)
  replace R2 := Lib.hid (row_below R2.out b)
  replace R3 := Lib.hid (row_below R3.out b)
  replace R5 := Lib.hid (row_below R5.out b)
  replace HB := Lib.hid (below_then HB.out b)
  replace HS := Lib.hid (HS.out.below b)
  replace RB := Lib.hid (RB.out.below dataR_keeps b)
  replace L10 := Lib.hid (L10.out.below b)
  replace T0 := Lib.hid (below_then T0.out b)
  have RD := Lib.hid h
  clear h b s2
  obtain ⟨w16, hw16⟩ : ∃ V, V = w15.alloc (baseBox da 1 dc) := ⟨_, rfl⟩
  have Hw16 := Lib.hid hw16
  have bn : Below w15.heap.size w15 w16 := by rw [hw16]; exact below_new (Below.refl _ _) _
  have R8 : Hid (w16.heap[w15.heap.size]? = some (baseBox da 1 dc)) := by rw [hw16]; exact heap_alloc_new _ _
  replace R1 := Lib.hid (row_below R1.out bn)
  replace R2 := Lib.hid (row_below R2.out bn)
  replace R3 := Lib.hid (row_below R3.out bn)
  replace R5 := Lib.hid (row_below R5.out bn)
  replace HB := Lib.hid (below_then HB.out bn)
  replace HS := Lib.hid (HS.out.below bn)
  replace RB := Lib.hid (RB.out.below dataR_keeps bn)
  replace L10 := Lib.hid (L10.out.below bn)
  replace T0 := Lib.hid (below_then T0.out bn)
  replace RD := Lib.hid (RD.out.below dataR_keeps bn)
  clear bn hw16
  go_upto_region 7 with fail
  rw [show w15.alloc (baseBox da 1 dc) = w16 from Hw16.out.symm]
  clear Hw16
  generalize w15.heap.size = g8 at R8 ⊢
  obtain ⟨q0, q1, q2⟩ := line_row R3.out
  go_wp2_with fail
  refine (al_wrote2 L10.out).mono ?_
  rintro e w17 ⟨⟨z17k, z17ca, z17cn, z17cc, z17a, z17n, z17c⟩, rfl, h, b⟩
  replace R1 := Lib.hid (row_below R1.out b)
  replace R2 := Lib.hid (row_below R2.out b)
  replace R3 := Lib.hid (row_below R3.out b)
  replace R5 := Lib.hid (row_below R5.out b)
  replace R8 := Lib.hid (row_below R8.out b)
  replace HB := Lib.hid (below_then HB.out b)
  replace HS := Lib.hid (HS.out.below b)
  replace RB := Lib.hid (RB.out.below dataR_keeps b)
  replace L10 := Lib.hid (L10.out.below b)
  replace T0 := Lib.hid (below_then T0.out b)
  replace RD := Lib.hid (RD.out.below dataR_keeps b)
  have HD := Lib.hid h.2.2
  clear h b q0 q1 q2
  dsimp only at HD
  obtain ⟨w18, hw18⟩ : ∃ V, V = w17.alloc (lineBox ⟨z17k, z17ca, z17cn, z17cc, z17a, z17n, z17c⟩) := ⟨_, rfl⟩
  have Hw18 := Lib.hid hw18
  have bn : Below w17.heap.size w17 w18 := by rw [hw18]; exact below_new (Below.refl _ _) _
  have R9 : Hid (w18.heap[w17.heap.size]? = some (lineBox ⟨z17k, z17ca, z17cn, z17cc, z17a, z17n, z17c⟩)) := by rw [hw18]; exact heap_alloc_new _ _
  replace R1 := Lib.hid (row_below R1.out bn)
  replace R2 := Lib.hid (row_below R2.out bn)
  replace R3 := Lib.hid (row_below R3.out bn)
  replace R5 := Lib.hid (row_below R5.out bn)
  replace R8 := Lib.hid (row_below R8.out bn)
  replace HB := Lib.hid (below_then HB.out bn)
  replace HS := Lib.hid (HS.out.below bn)
  replace RB := Lib.hid (RB.out.below dataR_keeps bn)
  replace L10 := Lib.hid (L10.out.below bn)
  replace T0 := Lib.hid (below_then T0.out bn)
  replace RD := Lib.hid (RD.out.below dataR_keeps bn)
  replace HD := Lib.hid (HD.out.below bn)
  clear bn hw18
  go_upto_region 8 with fail
  rw [show w17.alloc (lineBox ⟨z17k, z17ca, z17cn, z17cc, z17a, z17n, z17c⟩) = w18 from Hw18.out.symm]
  clear Hw18
  generalize w17.heap.size = g9 at R9 ⊢
  obtain rfl : 2 = z17n := HD.out.len
  obtain ⟨db, do_, la, lc, rfl, hdb⟩ := al_base_row (m := 1) RD.out rfl
  obtain ⟨q0, _, _⟩ := line_row R3.out
  rw [L10.out.1] at q0
  have hc : ∀ (p : Addr) (y : Value), w14.cell? p = some y → w18.cell? p = some y := fun p y h2 => (T0.out.cell (World.block_lt_of_cell? _ _ h2)).trans h2
  have hS1 : Below w18.heap.size w18 w18 ∧ w18.cell? ⟨g1, 0, none⟩ = some (.slice A 1 1) ∧ w18.cell? ⟨g2, 0, none⟩ = some (.slice z8a 1 z8c) ∧ w18.cell? ⟨g3, 0, none⟩ = some (.int .i64 5) ∧ w18.cell? ⟨rb, ro, none⟩ = some (.slice (some ⟨rb0, ro0, none⟩) 2 rc0) ∧ w18.cell? ⟨rb, ro + 1, none⟩ = some (.slice (some ⟨rb1, ro1, none⟩) 2 rc1) ∧ w18.cell? ⟨rb0, ro0 + 1, none⟩ = some (.int .i64 3) ∧ w18.cell? ⟨rb1, ro1 + 3, none⟩ = some (.int .i64 1) ∧ w18.cell? ⟨rb1, ro1 + 4, none⟩ = some (.int .i64 1) ∧ w18.cell? ⟨rb1, ro1 + 5, none⟩ = some (.string ⟨#[]⟩) ∧ w18.cell? ⟨g8, 0, none⟩ = some (.slice (some ⟨db, do_, none⟩) 1 dc) ∧ w18.cell? ⟨db, do_, none⟩ = some (.slice la 1 lc) ∧ w18.cell? ⟨g9, 2, none⟩ = some (.slice z17a 2 z17c) := ⟨Below.refl _ _, sch_row R1.out, base_row R2.out, q0, hc _ _ Q1.out, hc _ _ Q2.out, hc _ _ Q3.out, hc _ _ Q4.out, hc _ _ Q5.out, hc _ _ Q6.out, base_row R8.out, hdb, (line_row R9.out).2.2⟩
  have KA : Hid (∀ W, Below w18.heap.size w18 W → (Below w18.heap.size w18 W ∧ W.cell? ⟨g1, 0, none⟩ = some (.slice A 1 1) ∧ W.cell? ⟨g2, 0, none⟩ = some (.slice z8a 1 z8c) ∧ W.cell? ⟨g3, 0, none⟩ = some (.int .i64 5) ∧ W.cell? ⟨rb, ro, none⟩ = some (.slice (some ⟨rb0, ro0, none⟩) 2 rc0) ∧ W.cell? ⟨rb, ro + 1, none⟩ = some (.slice (some ⟨rb1, ro1, none⟩) 2 rc1) ∧ W.cell? ⟨rb0, ro0 + 1, none⟩ = some (.int .i64 3) ∧ W.cell? ⟨rb1, ro1 + 3, none⟩ = some (.int .i64 1) ∧ W.cell? ⟨rb1, ro1 + 4, none⟩ = some (.int .i64 1) ∧ W.cell? ⟨rb1, ro1 + 5, none⟩ = some (.string ⟨#[]⟩) ∧ W.cell? ⟨g8, 0, none⟩ = some (.slice (some ⟨db, do_, none⟩) 1 dc) ∧ W.cell? ⟨db, do_, none⟩ = some (.slice la 1 lc) ∧ W.cell? ⟨g9, 2, none⟩ = some (.slice z17a 2 z17c))) := by
    intro W hb
    obtain ⟨_, f1, f2, f3, f4, f5, f6, f7, f8, f9, f10, f11, f12⟩ := hS1
    have hc : ∀ (p : Addr) (y : Value), w18.cell? p = some y → W.cell? p = some y := fun p y h2 => (hb.cell (World.block_lt_of_cell? _ _ h2)).trans h2
    exact ⟨hb, hc _ _ f1, hc _ _ f2, hc _ _ f3, hc _ _ f4, hc _ _ f5, hc _ _ f6, hc _ _ f7, hc _ _ f8, hc _ _ f9, hc _ _ f10, hc _ _ f11, hc _ _ f12⟩
  have hS0 := KA.out w18.drew (Below.refl _ _).drew
  have P1 : Hid (∀ W, Below w18.heap.size w18 W → Calls Tryz.prog 12 #[.agg #[.slice A 1 1], .agg #[.slice z8a 1 z8c]] W fun e w' => e = .returned (.bool true) ∧ Below W.heap.size W w') := fun W hW => al_rightT (HS.out.below hW) (RB.out.below dataR_keeps hW)
  have P2 : Hid (∀ W, Below w18.heap.size w18 W → Calls Tryz.prog 12 #[.agg #[.slice A 1 1], .agg #[.slice none 0 0]] W fun e w' => e = .returned (.bool false) ∧ Below W.heap.size W w') := fun W hW => al_rightF (HS.out.below hW)
  have P3 := Lib.hid (fun (W : World) (hW : Below w18.heap.size w18 W) => al_dots HD.out hW)
  have P4 := Lib.hid al_show4
  clear hS1 hc q0 hdb HS RB L10 T0 Q1 Q2 Q3 Q4 Q5 Q6 RD HD R1 R2 R3 R5 R8 R9
  clear hS0
  have T1 := Lib.hid (Below.refl w18.heap.size w18)
  obtain ⟨f0, f1, f2, f3, f4, f5, f6, f7, f8, f9, f10, f11, f12⟩ := KA.out _ T1.out
  go_wp2_with fail
  refine (P1.out _ T1.out).mono ?_
  rintro e wx ⟨rfl, bb⟩
  clear f0 f1 f2 f3 f4 f5 f6 f7 f8 f9 f10 f11 f12
  replace T1 := Lib.hid (below_then T1.out bb)
  clear bb
  obtain ⟨f0, f1, f2, f3, f4, f5, f6, f7, f8, f9, f10, f11, f12⟩ := KA.out _ T1.out
  go_wp2_with fail
  refine (P2.out _ T1.out).mono ?_
  rintro e wx ⟨rfl, bb⟩
  clear f0 f1 f2 f3 f4 f5 f6 f7 f8 f9 f10 f11 f12
  replace T1 := Lib.hid (below_then T1.out bb)
  clear bb
  obtain ⟨f0, f1, f2, f3, f4, f5, f6, f7, f8, f9, f10, f11, f12⟩ := KA.out _ T1.out
  go_wp2_with fail
  skip
  refine (P3.out _ T1.out).mono ?_
  rintro e wx ⟨rfl, bb⟩
  clear f0 f1 f2 f3 f4 f5 f6 f7 f8 f9 f10 f11 f12
  replace T1 := Lib.hid (below_then (below_new T1.out _) bb)
  clear bb
  obtain ⟨f0, f1, f2, f3, f4, f5, f6, f7, f8, f9, f10, f11, f12⟩ := KA.out _ T1.out
  go_wp2_with fail
  refine (P4.out _).mono ?_
  rintro e wx ⟨rfl, bb⟩
  clear f0 f1 f2 f3 f4 f5 f6 f7 f8 f9 f10 f11 f12
  replace T1 := Lib.hid (below_then T1.out bb)
  clear bb
  have HZ := Lib.hid (below_then HB.out T1.out)
  have FLD : ∀ W : World, (Instr.field 68 (.agg #[.int .i64 1, .int .i64 4, .string ⟨#[]⟩]) 1).run Tryz.prog W = .ok (.int .i64 4) W := fun W => by kernel_rfl
  go_wp2_with fail
  go_ret
  exact ⟨rfl, HZ.out⟩
end Go.Proofs.YtfljhnalmiibeaaGreat

