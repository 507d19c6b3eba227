/- Layer 4: the order of stamps: the code. -/
import Derived.Test.YthhacniljipegaaClkTells
import Derived.Test.YthhacniljipegaaSortStable
import Derived.Laws.MakeOwn
namespace Go.Proofs.Ythhacniljipegaa
set_option maxRecDepth 100000
open Go.RowKit Srt

theorem lessS_iff (a b : S3) : lessS a b = true ↔ a.t < b.t ∨ (a.t = b.t ∧ (a.d < b.d ∨ (a.d = b.d ∧ a.q < b.q))) := by
  unfold lessS
  split
  · simp; omega
  · split <;> simp <;> omega
theorem lessS_no (a b : S3) : lessS a b = false ↔ ¬ (a.t < b.t ∨ (a.t = b.t ∧ (a.d < b.d ∨ (a.d = b.d ∧ a.q < b.q)))) := by
  rw [← lessS_iff]; simp
theorem lessS_weak : Weak lessS where
  irr := fun a => by rw [lessS_no]; omega
  trans := fun a b c => by rw [lessS_iff, lessS_iff, lessS_iff]; omega
  neg := fun a b c => by rw [lessS_no, lessS_no, lessS_no]; omega

/-- which of two places holds what is ahead -/
def ltP (l : List S3) (i j : Fin l.length) : Bool := lessS l[i] l[j]
theorem ltP_weak (l : List S3) : Weak (ltP l) where
  irr := fun _ => lessS_weak.irr _
  trans := fun _ _ _ => lessS_weak.trans _ _ _
  neg := fun _ _ _ => lessS_weak.neg _ _ _
def numP {n : Nat} (i : Fin n) : Int := (i.val : Int)
/-- the places of stamps, in order -/
def ordP (l : List S3) : List (Fin l.length) := isort (ltP l) (List.finRange l.length)
def ordZ (l : List S3) : List Int := (ordP l).map numP
theorem ordP_len (l : List S3) : (ordP l).length = l.length := by rw [ordP, isort_len, List.length_finRange]
theorem ordZ_len (l : List S3) : (ordZ l).length = l.length := by rw [ordZ, List.length_map, ordP_len]

set_option maxHeartbeats 1600000 in
theorem orderCmp_any (B : Nat) (A : Option Addr) (n c i j : Nat) (l : List S3) (x y : S3) (w : World) (hB : w.cell? ⟨B, 0, none⟩ = some (.slice A n c)) (h : RdS w A n c l) (hi : l[i]? = some x) (hj : l[j]? = some y) :
    Calls Try.prog 21 #[.int .i64 i, .int .i64 j, .pointer (some ⟨B, 0, none⟩)] w fun e w' => e = .returned (.int .i64 (cmpS x y)) ∧ Below w.heap.size w w' := by
  have hl := h.len
  have hin : i < n := by rw [← hl]; exact (List.getElem?_eq_some_iff.1 hi).1
  have hjn : j < n := by rw [← hl]; exact (List.getElem?_eq_some_iff.1 hj).1
  obtain ⟨b, o, x', rfl, hb, hx, hld⟩ := h.stamp hin
  obtain ⟨b2, o2, y', e2, hb2, hy, hld2⟩ := h.stamp hjn
  injection e2 with e2
  injection e2 with e3 e4
  subst e3 e4
  rw [hx] at hi; injection hi with hi; subst hi
  rw [hy] at hj; injection hj with hj; subst hj
  have q1 : (i : Int) < (n : Int) := by omega
  have q2 : (j : Int) < (n : Int) := by omega
  have P := Lib.hid (fun W => compare_any x' y' W)
  obtain ⟨r, hr⟩ : ∃ r, Hid (r = cmpS x' y') := ⟨_, rfl⟩
  rw [← hr.out] at P ⊢
  have K : Hid (∀ W, Below w.heap.size w W → Below w.heap.size w W ∧ W.cell? ⟨B, 0, none⟩ = some (.slice (some ⟨b, o, none⟩) n c) ∧ W.cell? ⟨b, o + i * 3, none⟩ = some (.int .i64 x'.t) ∧ W.cell? ⟨b, o + i * 3 + 1, none⟩ = some (.int .i64 x'.d) ∧ W.cell? ⟨b, o + i * 3 + 2, none⟩ = some (.int .i64 x'.q) ∧ W.cell? ⟨b, o + j * 3, none⟩ = some (.int .i64 y'.t) ∧ W.cell? ⟨b, o + j * 3 + 1, none⟩ = some (.int .i64 y'.d) ∧ W.cell? ⟨b, o + j * 3 + 2, none⟩ = some (.int .i64 y'.q)) := by
    intro W hW
    obtain ⟨a1, a2, a3⟩ := hld W hW
    obtain ⟨a4, a5, a6⟩ := hld2 W hW
    exact ⟨hW, (hW.cell (p := ⟨B, 0, none⟩) (block_lt_of_cell hB)).trans hB, a1, a2, a3, a4, a5, a6⟩
  have hb0 := (Below.refl w.heap.size w).drew
  clear hB h hl hx hy hld hld2 hin hjn hb hb2
  go_enter Try.func21, Try.ntmps21
  go_wp2_with fail
  go_region_held3 (fun W => Below w.heap.size w W ∧ W.cell? ⟨B, 0, none⟩ = some (.slice (some ⟨b, o, none⟩) n c) ∧ W.cell? ⟨b, o + i * 3, none⟩ = some (.int .i64 x'.t) ∧ W.cell? ⟨b, o + i * 3 + 1, none⟩ = some (.int .i64 x'.d) ∧ W.cell? ⟨b, o + i * 3 + 2, none⟩ = some (.int .i64 x'.q) ∧ W.cell? ⟨b, o + j * 3, none⟩ = some (.int .i64 y'.t) ∧ W.cell? ⟨b, o + j * 3 + 1, none⟩ = some (.int .i64 y'.d) ∧ W.cell? ⟨b, o + j * 3 + 2, none⟩ = some (.int .i64 y'.q))
    (first
      | (refine K.out _ ?_; go_split_ands; exact below_then (by assumption) bb)
      | (refine K.out _ ?_; go_split_ands; assumption)
      | (refine K.out _ ?_; go_split_ands; exact Below.drew (by assumption)))
    (first
      | (go_at_call 19; refine (P.out _).mono ?_; rintro e wx ⟨rfl, bb⟩))
  all_goals
    go_wp2
    go_ret
    exact ⟨rfl, below_then hb0 bb⟩

theorem Try.infoInt : (Try.prog.info? 3).map (fun i => (i.zero, i.size, i.bytes)) = some (some (.int .i64 0), 1, 8) := by kernel_rfl
theorem made_ints (k : Nat) (hk : k ≤ 17179869184) : ∃ Z : Array Value, Z.size = k ∧ ∀ W : World, (Instr.makeSlice 33 (.int .i64 (k : Int)) (.int .i64 (k : Int))).run Try.prog W = .ok (.slice (some ⟨W.heap.size, 0, none⟩) k k) (W.alloc (.cells Z 3)) := by
  obtain ⟨i0, hi0, hz0, hz1, hz2⟩ := info_parts Try.infoInt
  refine ⟨madeCells (Value.cells (.int .i64 0)) k, size_madeCells _ _, fun W => ?_⟩
  have := run_make (P := Try.prog) W 33 3 i0 _ Try.underlying33 hi0 hz0 .i64 .i64 k k (by omega) (by omega) (by rw [hz2]; omega) (by omega)
  rw [hz1] at this
  simpa using this

/-- a row of places that is being written: the first k are there -/
def Places (w : World) (g n k : Nat) : Prop :=
  ∃ cs : Array Value, w.heap[g]? = some (.cells cs 3 (0, 0)) ∧ cs.size = n ∧ ∀ i, i < k → cs[i]? = some (.int .i64 (i : Int))
theorem Places.cell {w : World} {g n k : Nat} (h : Places w g n k) {j : Nat} (hj : j < n) : ∃ a, w.cell? ⟨g, j, none⟩ = some a := by
  obtain ⟨cs, h1, h2, _⟩ := h
  exact ⟨cs[j]'(by omega), by rw [cell_row h1, Array.getElem?_eq_getElem]⟩
theorem Places.frozen {w : World} {g n k : Nat} (h : Places w g n k) (j : Nat) : w.frozen? ⟨g, j, none⟩ = false := by
  obtain ⟨cs, h1, h2, _⟩ := h
  exact frozen_row h1 _
theorem Places.put {w : World} {g n k : Nat} (h : Places w g n k) (hk : k < n) : Places (w.setCell ⟨g, k, none⟩ (.int .i64 (k : Int))) g n (k + 1) := by
  obtain ⟨cs, h1, h2, h3⟩ := h
  refine ⟨_, set_row h1 _ _, by simpa using h2, fun i hi => ?_⟩
  rw [Array.getElem?_setIfInBounds]
  by_cases e : k = i
  · subst e; rw [if_pos rfl, if_pos (by omega)]
  · rw [if_neg e]; exact h3 i (by omega)
theorem Places.sw {w : World} {g n : Nat} (h : Places w g n n) : Sw numP w g 0 (List.finRange n) w where
  os := rfl
  tape := rfl
  output := rfl
  size := Nat.le_refl _
  lt := by obtain ⟨cs, h1, _, _⟩ := h; exact (Array.getElem?_eq_some_iff.1 h1).1
  block := fun _ _ _ => rfl
  cell := fun j x hx => by
    obtain ⟨cs, h1, h2, h3⟩ := h
    have hj : j < n := by simpa using (List.getElem?_eq_some_iff.1 hx).1
    rw [Nat.zero_add, cell_row h1, h3 j hj]
    rw [List.getElem?_eq_getElem (by simpa using hj), List.getElem_finRange] at hx
    injection hx with hx
    subst hx
    rfl
  frozen := fun j _ => by rw [Nat.zero_add]; exact h.frozen j

theorem Sw.cell_old {α : Type} {num : α → Int} {w0 W : World} {blk off : Nat} {d : List α} (h : Sw num w0 blk off d W) {p : Addr} (hp : p.block < w0.heap.size) (hne : p.block ≠ blk) : W.cell? p = w0.cell? p := by
  simp only [World.cell?, h.block p.block hp hne]

/-- what was sorted in a block of the call's own -/
theorem Sw.done {α : Type} {num : α → Int} {w w0 W : World} {blk n : Nat} {d : List α} (h : Sw num w0 blk 0 d W) (hb : Below w.heap.size w w0) (hblk : w.heap.size ≤ blk) (hn : d.length = n) (hm : n ≤ maxLen) :
    Rd W (some ⟨blk, 0, none⟩) n n (vals .i64 (d.map num)) ∧ Below w.heap.size w W := by
  refine ⟨⟨by simp [hn], Nat.le_refl _, hm, fun _ => ⟨blk, 0, rfl, h.lt, fun j hj => ?_⟩⟩, ⟨h.os.trans hb.os, h.tape.trans hb.tape, h.output.trans hb.output, Nat.le_trans hb.size h.size, fun k hk => ?_⟩⟩
  · simp at hj
    rw [h.cell j _ (List.getElem?_eq_getElem hj)]
    simp
  · rw [h.block k (Nat.lt_of_lt_of_le hk hb.size) (by omega), hb.block k hk]

set_option maxHeartbeats 1600000 in
theorem clkOrder_any (A : Option Addr) (n c : Nat) (l : List S3) (w : World) (h : RdS w A n c l) (hn : n ≤ 17179869184) :
    Calls Try.prog 17 #[.slice A n c] w fun e w' => ∃ A' c', e = .returned (.slice A' n c') ∧ Rd w' A' n c' (vals .i64 (ordZ l)) ∧ Below w.heap.size w w' := by
  have hl := h.len
  obtain ⟨Z, hZ, MK⟩ := made_ints n hn
  have h0 := heap_alloc_new w (.cells #[.slice A n c] 31)
  have hg := cell_row h0 0
  simp only [List.getElem?_toArray, List.getElem?_cons_zero] at hg
  have B0 := below_new (Below.refl w.heap.size w) (.cells #[.slice A n c] 31)
  have HG := Lib.hid hg; have HZ := Lib.hid hZ; have HH := Lib.hid h; have HL := Lib.hid hl
  clear hg hZ h hl h0
  go_enter Try.func17, Try.ntmps17
  go_wp2_with fail
  have HP0 : Hid (Places ((w.alloc (Obj.cells #[Value.slice A n c] 31)).alloc (Obj.cells Z 3)) (w.heap.size + 1) n 0) :=
    ⟨Z, heap_at (by simp), HZ.out, fun i hi => absurd hi (by omega)⟩
  have HG0 : Hid (((w.alloc (Obj.cells #[Value.slice A n c] 31)).alloc (Obj.cells Z 3)).cell? ⟨w.heap.size, 0, none⟩ = some (.slice A n c)) := by
    show _ = _
    rw [World.cell?_alloc_lt _ _ _ (by simp)]
    exact HG.out
  have B1 := below_new B0 (Obj.cells Z 3)
  obtain ⟨g, hg⟩ : ∃ g, Hid (g = w.heap.size + 1) := ⟨_, rfl⟩
  rw [← hg.out] at HP0 ⊢
  generalize (w.alloc (Obj.cells #[Value.slice A n c] 31)).alloc (Obj.cells Z 3) = w1 at HP0 HG0 B1 ⊢
  clear MK B0 HG HZ
  go_loopw [10] (fun v wr => ∃ k : Nat, k ≤ n ∧ v = .int .i64 k ∧ Hid (Places wr g n k) ∧ Hid (wr.cell? ⟨w.heap.size, 0, none⟩ = some (.slice A n c)) ∧ Below w.heap.size w wr) (fun v _ => n - (intOf v).toNat)
  case atStart => exact ⟨0, Nat.zero_le _, rfl, HP0, HG0, B1⟩
  case round =>
    clear HP0 HG0 B1
    obtain ⟨k, hk, rfl, HP, HG, B1⟩ := hrel
    by_cases hlt : k < n
    · have hlz : (k : Int) < (n : Int) := by omega
      obtain ⟨a, ha⟩ := HP.out.cell hlt
      have hf := HP.out.frozen k
      have HP2 := Lib.hid (HP.out.put hlt)
      have HG2 : Hid ((wr.setCell ⟨g, k, none⟩ (.int .i64 (k : Int))).cell? ⟨w.heap.size, 0, none⟩ = some (.slice A n c)) := by
        show _ = _
        rw [World.cell?_setCell_other _ _ _ _ (by have := hg.out; intro e; simp only [Addr.mk.injEq] at e; omega)]
        exact HG.out
      have hgw : w.heap.size ≤ g := by have := hg.out; omega
      have B2 : Below w.heap.size w (wr.setCell ⟨g, k, none⟩ (.int .i64 (k : Int))) := B1.setCell hgw _
      go_wp2
      exact ⟨⟨k + 1, by omega, by go_num, HP2, HG2, B2⟩, by simp [intOf]; omega⟩
    · have hlz : ¬ (k : Int) < (n : Int) := by omega
      obtain rfl : k = n := by omega
      have eg : ∀ args w, (callFunc 21 args).run Try.prog w = .ok (.enter 21 args) w := enters_of Try.func21 (by kernel_rfl) rfl
      have C : Hid (Calls Try.prog 20 #[.slice (some ⟨g, 0, none⟩) k k, .func (.func 21) #[] #[.pointer (some ⟨w.heap.size, 0, none⟩)]] wr fun e w' => e = .returned (.tuple #[]) ∧ Rd w' (some ⟨g, 0, none⟩) k k (vals .i64 (ordZ l)) ∧ Below w.heap.size w w') := by
        have hkl := HL.out
        subst hkl
        have hs := HP.out.sw
        have hgs := hg.out
        have hcmp : CmpB Try.prog 21 #[.pointer (some ⟨w.heap.size, 0, none⟩)] numP (ltP l) g 0 l.length wr := by
          intro d W hd hW x y
          have hlt1 : w.heap.size < wr.heap.size := block_lt_of_cell HG.out
          have a1 : W.cell? ⟨w.heap.size, 0, none⟩ = some (.slice A l.length c) := (hW.cell_old (p := ⟨w.heap.size, 0, none⟩) hlt1 (by show w.heap.size ≠ g; omega)).trans HG.out
          have a2 : RdS W A l.length c l := HH.out.keep (Nat.le_trans B1.size hW.size) fun p hp => (hW.cell_old (p := p) (Nat.lt_of_lt_of_le hp B1.size) (by omega)).trans (B1.cell hp)
          refine (orderCmp_any w.heap.size A l.length c x.val y.val l l[x] l[y] W a1 a2 (List.getElem?_eq_getElem x.isLt) (List.getElem?_eq_getElem y.isLt)).mono ?_
          rintro e W' ⟨rfl, bb⟩
          exact ⟨_, rfl, cmpS_less _ _, bb⟩
        refine (sortStable_any (ltP_weak l) _ _ g 0 l.length l.length (List.finRange l.length) wr wr eg hcmp (by omega) (by simp) hs).mono ?_
        rintro e w' ⟨rfl, hS⟩
        exact ⟨rfl, hS.done B1 (by omega) (ordP_len l) (by simp only [maxLen]; omega)⟩
      clear HP HG
      go_wp2_with (go_at_call 20; refine C.out.mono ?_; rintro e w' ⟨rfl, hR, hB⟩)
      go_ret
      exact ⟨_, _, rfl, hR, hB⟩
end Go.Proofs.Ythhacniljipegaa
