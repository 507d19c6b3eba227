/- The row of numbers with which bytes begin, as package code gets it: the closure is called for each, twice. -/
import Derived.Test.YtbajdehcomheaaaRows
import Derived.Test.YtbajdehcomheaaaMem
import Derived.Test.YtbajdehcomheaaaCodeNext
import Derived.Deep.QuietTactic
import Derived.BigQuiet
namespace Go.Proofs.Ytbajdehcomheaaa
open Go.RowKit

/-- the two variables that the closure holds -/
def St (w W : World) (A : Option Addr) (n c at_ : Nat) : Prop :=
  Below w.heap.size w W ∧ W.cell? ⟨w.heap.size, 0, none⟩ = some (.slice A n c) ∧ W.cell? ⟨w.heap.size + 1, 0, none⟩ = some (.int .i64 at_) ∧ W.frozen? ⟨w.heap.size + 1, 0, none⟩ = false ∧ w.heap.size + 2 ≤ W.heap.size
/-- rows that are newer than the two variables stay -/
def Keeps (w W W' : World) : Prop := ∀ e v n xs, W.ownsRow (w.heap.size + 2) e 1 v n xs → W'.ownsRow (w.heap.size + 2) e 1 v n xs
theorem Keeps.set (w W : World) (u : Value) : Keeps w W (W.setCell ⟨w.heap.size + 1, 0, none⟩ u) := fun _ _ _ _ h => ownsRow_setCell_below h (by show w.heap.size + 1 < w.heap.size + 2; omega) u
theorem St.set {w W : World} {A : Option Addr} {n c a b : Nat} (h : St w W A n c a) : St w (W.setCell ⟨w.heap.size + 1, 0, none⟩ (.int .i64 (b : Int))) A n c b := by
  obtain ⟨h1, h2, h3, h4, h5⟩ := h
  refine ⟨h1.setCell (by show w.heap.size ≤ w.heap.size + 1; omega) _, (World.cell?_setCell_other _ _ _ _ (by simp)).trans h2, World.cell?_setCell_same _ _ _ h3, (World.frozen?_setCell _ _ _ _).trans h4, by simp [World.setCell]; omega⟩
theorem next_st {w W : World} {b o n c at_ : Nat} {l : List Int} (h : St w W (some ⟨b, o, none⟩) n c at_) (hrd : Rd w (some ⟨b, o, none⟩) n c (vals .u8 l)) (hb : ∀ x ∈ l, 0 ≤ x ∧ x ≤ 255) (hk : at_ ≤ n) :
    Calls Try.prog 29 #[.pointer (some ⟨w.heap.size, 0, none⟩), .pointer (some ⟨w.heap.size + 1, 0, none⟩)] W fun e W' => e = .returned (nextV (getZ (l.drop at_))) ∧ St w W' (some ⟨b, o, none⟩) n c (at_ + nextAt (getZ (l.drop at_))) ∧ Keeps w W W' :=
  (next_any w.heap.size (w.heap.size + 1) b o n c at_ l W (hrd.below h.1) hb hk h.2.1 h.2.2.1 h.2.2.2.1).mono fun e W' ⟨h1, h2⟩ => ⟨h1, by rw [h2]; exact h.set, by rw [h2]; exact Keeps.set _ _ _⟩

/-- what GetNums hands back -/
def NumsRet (r : Option (List Int × Nat)) (e : Ending) (w' : World) : Prop :=
  match r with
  | some (xs, k) => ∃ A c, e = .returned (.tuple #[.slice A xs.length c, .int .i64 k, .int .i64 0]) ∧ Rd w' A xs.length c (vals .i64 xs)
  | none => e = .returned (.tuple #[.slice none 0 0, .int .i64 0, .int .i64 3])

theorem St.grown {w W W' : World} {A : Option Addr} {n c a : Nat} (h : St w W A n c a) (hg : W.grownBy W' none) : St w W' A n c a := by
  obtain ⟨h1, h2, h3, h4, h5⟩ := h
  have hs := hg.size
  have hbl : ∀ k, k < W.heap.size → W'.heap[k]? = W.heap[k]? := fun k hk => hg.block k hk (by simp)
  exact ⟨h1.grown hg (by omega) (by simp), (World.cell?_of_block (hbl _ (by show w.heap.size < _; omega))).trans h2, (World.cell?_of_block (hbl _ (by show w.heap.size + 1 < _; omega))).trans h3, (World.frozen?_of_block (hbl _ (by show w.heap.size + 1 < _; omega))).trans h4, by omega⟩
theorem St.far {w W : World} {A : Option Addr} {n c a : Nat} (h : St w W A n c a) {p : Addr} (hp : w.heap.size + 2 ≤ p.block) (u : Value) : St w (W.setCell p u) A n c a := by
  obtain ⟨h1, h2, h3, h4, h5⟩ := h
  refine ⟨h1.setCell (by omega) _, (World.cell?_setCell_other _ _ _ _ (fun e => by subst e; revert hp; show ¬ (w.heap.size + 2 ≤ w.heap.size); omega)).trans h2, (World.cell?_setCell_other _ _ _ _ (fun e => by subst e; revert hp; show ¬ (w.heap.size + 2 ≤ w.heap.size + 1); omega)).trans h3, (World.frozen?_setCell _ _ _ _).trans h4, by simp [World.setCell]; omega⟩
theorem St.mk_ (w : World) (A : Option Addr) (n c : Nat) (t1 t2 : TypeId) : St w ((w.alloc (.cells #[.slice A n c] t1)).alloc (.cells #[.int .i64 0] t2)) A n c 0 := by
  refine ⟨((Below.refl _ _).alloc (Nat.le_refl _) _).alloc (by simp) _, ?_, ?_, ?_, by simp⟩
  · rw [World.cell?_alloc_past _ _ _ (by simp), World.cell?_alloc_at _ _ _ _ rfl]; rfl
  · rw [World.cell?_alloc_at _ _ _ _ (by simp)]; rfl
  · exact World.frozen?_alloc_at _ _ _ _ (by simp)

theorem next_yes {w W : World} {b o n c at_ : Nat} {l : List Int} (h : St w W (some ⟨b, o, none⟩) n c at_) (hrd : Rd w (some ⟨b, o, none⟩) n c (vals .u8 l)) (hb : ∀ x ∈ l, 0 ≤ x ∧ x ≤ 255) (hk : at_ ≤ n) {x : Int} {u : Nat}
    (hg : getZ (l.drop at_) = some (x, u)) :
    Calls Try.prog 29 #[.pointer (some ⟨w.heap.size, 0, none⟩), .pointer (some ⟨w.heap.size + 1, 0, none⟩)] W fun e W' => e = .returned (.tuple #[.int .i64 x, .bool true]) ∧ St w W' (some ⟨b, o, none⟩) n c (at_ + u) ∧ Keeps w W W' :=
  (next_st h hrd hb hk).mono fun e W' ⟨h1, h2, h3⟩ => ⟨by rw [h1, hg]; rfl, by rw [hg] at h2; exact h2, h3⟩
theorem next_no {w W : World} {b o n c at_ : Nat} {l : List Int} (h : St w W (some ⟨b, o, none⟩) n c at_) (hrd : Rd w (some ⟨b, o, none⟩) n c (vals .u8 l)) (hb : ∀ x ∈ l, 0 ≤ x ∧ x ≤ 255) (hk : at_ ≤ n)
    (hg : getZ (l.drop at_) = none) :
    Calls Try.prog 29 #[.pointer (some ⟨w.heap.size, 0, none⟩), .pointer (some ⟨w.heap.size + 1, 0, none⟩)] W fun e W' => e = .returned (.tuple #[.int .i64 0, .bool false]) ∧ St w W' (some ⟨b, o, none⟩) n c at_ :=
  (next_st h hrd hb hk).mono fun e W' ⟨h1, h2, _⟩ => ⟨by rw [h1, hg]; rfl, by rw [hg] at h2; exact h2⟩

theorem numsI_step {k m : Nat} (hk : k < m) (acc : List Int) (at_ : Nat) (l : List Int) : numsI (m - k) acc at_ l = (match getZ (l.drop at_) with | none => none | some (x, u) => numsI (m - (k + 1)) (acc ++ [x]) (at_ + u) l) := by
  rw [show m - k = (m - (k + 1)) + 1 from by omega]; rfl

set_option maxHeartbeats 1600000 in
theorem getNums_any (A : Option Addr) (n c : Nat) (l : List Int) (w : World) (hrd : Rd w A n c (vals .u8 l)) (hb : ∀ x ∈ l, 0 ≤ x ∧ x ≤ 255) (hsm : n ≤ 4294967296) :
    Calls Try.prog 19 #[.slice A n c] w fun e w' => NumsRet (numsZ l) e w' ∧ Below w.heap.size w w' := by
  have hmf : ∀ (fn : Fn) (first cap : Array Value) (w : World), (Instr.makeFunc fn first cap).run Try.prog w = .ok (.func fn first cap) w := fun _ _ _ _ => rfl
  have hn := hrd.le
  have hll : l.length = n := by simpa using hrd.len
  have hcm := hrd.2.2.1
  have HLL := Lib.hid hll; clear hll
  have HB := Lib.hid hb; clear hb
  have HRD := Lib.hid hrd; clear hrd
  by_cases hn0 : n = 0
  · subst hn0
    have hle : l = [] := List.eq_nil_of_length_eq_zero HLL.out
    subst hle
    have hs := St.mk_ w A 0 c 24 3
    have hnext := Lib.hid (next_zero w.heap.size (w.heap.size + 1) c A _ hcm hs.2.1 hs.2.2.1 hs.2.2.2.1)
    have hs2 := Lib.hid hs.1
    clear hs
    go_enter Try.func19, Try.ntmps19
    go_wp2_with (go_at_call 29; refine hnext.out.mono ?_; rintro e w' ⟨rfl, rfl⟩)
    go_ret3
    exact ⟨rfl, hs2.out⟩
  · obtain ⟨b, o, _, rfl, _, _, _⟩ := HRD.out.at_ (show 0 < n by omega)
    have hs := St.mk_ w (some ⟨b, o, none⟩) n c 24 3
    have HS0 := Lib.hid hs; clear hs
    cases hg : getZ l with
    | none =>
      have hnext := Lib.hid (next_no HS0.out HRD.out HB.out (Nat.zero_le _) (show getZ (l.drop 0) = none from hg))
      have HNO : Hid (numsZ l = none) := by show _ = _; simp [numsZ, hg]
      clear hg
      go_enter Try.func19, Try.ntmps19
      go_wp2_with (go_at_call 29; refine hnext.out.mono ?_; rintro e w' ⟨rfl, hst⟩)
      go_ret3
      exact ⟨by rw [HNO.out]; rfl, hst.1⟩
    | some p =>
      obtain ⟨z, k0⟩ := p
      have hgs := getZ_some HB.out hg
      have hz := hgs.1
      have hkl := hgs.2.2.2.2
      rw [HLL.out] at hkl
      clear hgs
      have hnext := Lib.hid (next_yes HS0.out HRD.out HB.out (Nat.zero_le _) (show getZ (l.drop 0) = some (z, k0) from hg))
      by_cases hz0 : 0 ≤ z
      · have HY : Hid (numsZ l = numsI z.toNat [] k0 l) := by show _ = _; simp [numsZ, hg, hz0]
        obtain ⟨m, rfl⟩ := Int.eq_ofNat_of_zero_le hz0
        clear hg
        go_enter Try.func19, Try.ntmps19
        go_wp2_with (go_at_call 29; refine hnext.out.mono ?_; rintro e w1 ⟨rfl, hst, _⟩; have hc1 := hst.2.2.1)
        simp only [Nat.zero_add] at hst
        clear hc1 hnext HS0
        go_loopw [28] (fun i wr => ∃ (k at_ : Nat) (acc : List Int), k ≤ m ∧ i = .int .i64 k ∧ Hid (St w wr (some ⟨b, o, none⟩) n c at_) ∧ at_ ≤ n ∧ k ≤ at_ ∧ Hid (acc.length = k) ∧ Hid (numsZ l = numsI (m - k) acc at_ l)) (fun i _ => m - (intOf i).toNat)
        case atStart => exact ⟨0, k0, [], Nat.zero_le _, rfl, hst, hkl, Nat.zero_le _, rfl, HY.out⟩
        case round =>
          obtain ⟨k, at_, acc, hk, rfl, hst, hat, hka, hal, hnum⟩ := hrel
          by_cases hkm : k < m
          · have hstep := numsI_step hkm acc at_ l
            cases hg : getZ (l.drop at_) with
            | none =>
              have HNO : Hid (numsZ l = none) := by
                show _ = _
                rw [hnum.out, hstep, hg]
              have hnext := Lib.hid (next_no hst.out HRD.out HB.out hat hg)
              clear hstep hg
              go_wp2_with (go_at_call 29; refine hnext.out.mono ?_; rintro e w' ⟨rfl, hst⟩)
              go_ret3
              exact ⟨by rw [HNO.out]; rfl, hst.1⟩
            | some p =>
              obtain ⟨x, u⟩ := p
              have hnext := Lib.hid (next_yes hst.out HRD.out HB.out hat hg)
              have hgs := getZ_some (fun x hx => HB.out x (List.mem_of_mem_drop hx)) hg
              have hu0 := hgs.2.2.2.1
              have hu1 := hgs.2.2.2.2
              rw [List.length_drop, HLL.out] at hu1
              have hnx : Hid (numsZ l = numsI (m - (k + 1)) (acc ++ [x]) (at_ + u) l) := by
                show _ = _
                rw [hnum.out, hstep, hg]
              clear hstep hg hgs
              go_wp2_with (go_at_call 29; refine hnext.out.mono ?_; rintro e w' ⟨rfl, hst, _⟩)
              exact ⟨⟨k + 1, at_ + u, acc ++ [x], by omega, by go_num, hst, by omega, by omega, by show _ = _; rw [List.length_append, hal.out]; rfl, hnx⟩, by simp [intOf]; omega⟩
          · obtain rfl : k = m := by omega
            have hdone : Hid (numsZ l = some (acc, at_)) := by
              show _ = _
              rw [hnum.out, Nat.sub_self]; rfl
            clear hnum
            obtain ⟨i0, hi0, hz0', hz1', hz2'⟩ := info_parts Try.infoInt
            have hsz2 := hst.out.2.2.2.2
            go_wp2_with (at_make; refine wpList_make_full _ rfl (.tmp 38) (.tmp 38) 32 rfl (w.heap.size + 2) 3 i0 _ 1 Try.underlying32 hi0 hz0' hz1' .i64 .i64 _ _ k rfl rfl rfl rfl ?b2 ?b3 ?b4 ?_; rotate_left 3; intro w2 hown hgrow; have hst2 := hst.out.grown hgrow; have hc2 := hst2.2.2.1; have hf2 := hst2.2.2.2.1)
            case b2 => rw [hz2']; omega
            case b3 => simp only [maxLen]; omega
            case b4 => exact hsz2
            have hst3 := Lib.hid (hst2.set (b := k0))
            have hown3 := Lib.hid (ownsRow_setCell_below hown (a := ⟨w.heap.size + 1, 0, none⟩) (by show w.heap.size + 1 < w.heap.size + 2; omega) (.int .i64 (k0 : Int)))
            have hnum0 : Hid (numsI (k - 0) [] k0 l = some (acc, at_)) := by
              have h1 := HY.out
              rw [hdone.out] at h1
              exact h1.symm
            clear hc2 hf2 hst2 hown hgrow hst
            generalize wr.heap.size = g at hown3 hsz2 ⊢
            go_loopw [43] (fun i wr => ∃ (j at2 : Nat) (done : List Int), j ≤ k ∧ i = .int .i64 j ∧ Hid (St w wr (some ⟨b, o, none⟩) n c at2) ∧ at2 ≤ n ∧ Hid (done.length = j) ∧
              Hid (wr.ownsRow (w.heap.size + 2) 3 1 (.slice (some ⟨g, 0, none⟩) k k) k (vals .i64 (done ++ List.replicate (k - j) 0))) ∧ Hid (numsI (k - j) done at2 l = some (acc, at_))) (fun i _ => k - (intOf i).toNat)
            case atStart =>
              refine ⟨0, k0, [], Nat.zero_le _, rfl, hst3.out, hkl, rfl, ?_, hnum0.out⟩
              have h := hown3.out
              show World.ownsRow _ _ _ _ _ _ _
              rw [show (Value.int IntKind.i64 0).cells = #[.int .i64 0] from rfl, toList_madeCells_one] at h
              simpa [vals] using h
            case round =>
              obtain ⟨j, at2, done, hj, rfl, hst, hat2, hdl, hrow, hnum⟩ := hrel
              by_cases hjk : j < k
              · have hstep := numsI_step hjk done at2 l
                rw [hnum.out] at hstep
                cases hg : getZ (l.drop at2) with
                | none => rw [hg] at hstep; cases hstep
                | some p =>
                  obtain ⟨x, u⟩ := p
                  rw [hg] at hstep
                  have hnext := Lib.hid (next_yes hst.out HRD.out HB.out hat2 hg)
                  have hgs := getZ_some (fun x hx => HB.out x (List.mem_of_mem_drop hx)) hg
                  have hu1 := hgs.2.2.2.2
                  rw [List.length_drop, HLL.out] at hu1
                  have hnx : Hid (numsI (k - (j + 1)) (done ++ [x]) (at2 + u) l = some (acc, at_)) := hstep.symm
                  have hcellj : Hid ((vals .i64 (done ++ List.replicate (k - j) 0))[j]? = some (.int .i64 0)) := by
                    show _ = _
                    have hd := hdl.out
                    simp only [vals, List.getElem?_map]
                    rw [List.getElem?_append_right (by omega), List.getElem?_replicate, if_pos (by omega)]; rfl
                  have hset : Hid ((vals .i64 (done ++ List.replicate (k - j) 0)).set j (.int .i64 x) = vals .i64 ((done ++ [x]) ++ List.replicate (k - (j + 1)) 0)) := by
                    show _ = _
                    have hd := hdl.out
                    simp only [vals]
                    rw [← List.map_set, List.set_append_right _ _ (by omega), show j - done.length = 0 from by omega, show k - j = (k - (j + 1)) + 1 from by omega, List.replicate_succ, List.set_cons_zero, List.append_assoc]; rfl
                  clear hstep hg hgs
                  go_wp2_with (go_at_call 29; refine hnext.out.mono ?_; rintro e w' ⟨rfl, hst', hkeep⟩; have hrow' := hkeep _ _ _ _ hrow.out; have hcj := (hrow'.cellAt j (by omega)).trans hcellj.out; have hfj := hrow'.frozenAt j)
                  refine ⟨⟨j + 1, at2 + u, done ++ [x], by omega, by go_num, hst'.far (by exact hsz2) _, by omega, by show _ = _; rw [List.length_append, hdl.out]; rfl, ?_, hnx⟩, by simp [intOf]; omega⟩
                  have := (hrow'.stored j (.int .i64 x)).1
                  rw [hset.out] at this
                  exact this
              · obtain rfl : j = k := by omega
                have hfin := hnum.out
                rw [Nat.sub_self] at hfin
                simp only [numsI, Option.some.injEq, Prod.mk.injEq] at hfin
                obtain ⟨rfl, rfl⟩ := hfin
                have hc5 := hst.out.2.2.1
                have hr5 := hrow.out
                rw [Nat.sub_self, List.replicate_zero, List.append_nil] at hr5
                have HR5 := Lib.hid hr5; clear hr5
                go_wp2
                go_quiet (fail)
                go_wp2
                go_ret3
                rw [hdone.out]
                refine ⟨⟨some ⟨g, 0, none⟩, j, ?_, ?_⟩, below_drewN hst.out.1 _⟩
                · rw [hdl.out]; rfl
                · rw [hdl.out]; exact (Rd.own_ HR5.out).drewN _
      · have HNO : Hid (numsZ l = none) := by show _ = _; simp [numsZ, hg, hz0]
        clear hg
        go_enter Try.func19, Try.ntmps19
        go_wp2_with (go_at_call 29; refine hnext.out.mono ?_; rintro e w' ⟨rfl, hst, _⟩)
        go_ret3
        exact ⟨by rw [HNO.out]; rfl, hst.1⟩
end Go.Proofs.Ytbajdehcomheaaa
