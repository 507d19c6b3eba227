/- Layer 3: the row with whose bytes a slice begins: what is handed back. -/
import Derived.Test.YtijhcoidhlmecaaRowGet
namespace Go.Proofs.Ytijhcoidhlmecaa
set_option maxRecDepth 100000
open Go.RowKit

theorem getsZ_some : ∀ {k : Nat} {l : List Int} {vs : List V3} {m : Nat}, (∀ x ∈ l, 0 ≤ x ∧ x ≤ 255) → getsZ k l = some (vs, m) →
    vs.length = k ∧ k ≤ m ∧ m ≤ l.length ∧ l.take m = vs.flatMap bytesV ∧ (∀ v ∈ vs, v.right = true) ∧ ∀ v ∈ vs, v.s.size ≤ l.length
  | 0, l, vs, m, _, h => by
    simp only [getsZ, Option.some.injEq, Prod.mk.injEq] at h
    obtain ⟨rfl, rfl⟩ := h
    simp
  | k + 1, l, vs, m, hb, h => by
    rw [getsZ] at h
    split at h
    · rename_i hg
      simp only [Option.map_eq_some_iff, Prod.mk.injEq] at h
      obtain ⟨⟨vs', m'⟩, hr, rfl, rfl⟩ := h
      obtain ⟨h1, h2, h3, h4, h5, h6⟩ := hL_is hb hg
      obtain ⟨g1, g2, g3, g4, g5, g6⟩ := getsZ_some (fun x hx => hb x (List.mem_of_mem_drop hx)) hr
      rw [List.length_drop] at g3 g6
      simp only at g1 g2 g3 g4 g5 g6 ⊢
      refine ⟨by simp [g1], by omega, by omega, ?_, ?_, ?_⟩
      · rw [List.take_add, ← h4, g4, List.flatMap_cons]
      · intro v hv
        rw [List.mem_cons] at hv
        rcases hv with rfl | hv
        · exact h5
        · exact g5 v hv
      · intro v hv
        rw [List.mem_cons] at hv
        rcases hv with rfl | hv
        · exact h6
        · have := g6 v hv; omega
    · cases h

/-- what is handed back of a row that is got, or of none -/
def GotRow (r : Option (List V3 × Nat)) (w : World) (e : Ending) (w' : World) : Prop :=
  Below w.heap.size w w' ∧ (r = none → e = .returned (.tuple #[.slice none 0 0, .int .i64 0, .int .i64 3])) ∧
    ∀ vs m, r = some (vs, m) → ∃ A c, e = .returned (.tuple #[.slice A vs.length c, .int .i64 (m : Int), .int .i64 0]) ∧ RdV w' A vs.length c vs
theorem got_no {r : Option (List V3 × Nat)} {w w' : World} (h : r = none) (b : Below w.heap.size w w') : GotRow r w (.returned (.tuple #[.slice none 0 0, .int .i64 0, .int .i64 3])) w' :=
  ⟨b, fun _ => rfl, fun vs m h' => by rw [h] at h'; cases h'⟩
theorem got_yes {r : Option (List V3 × Nat)} {w w' : World} {vs : List V3} {m n c : Nat} {A : Option Addr} (h : r = some (vs, m)) (hn : vs.length = n) (b : Below w.heap.size w w') (rd : RdV w' A n c vs) :
    GotRow r w (.returned (.tuple #[.slice A n c, .int .i64 (m : Int), .int .i64 0])) w' := by
  subst hn
  refine ⟨b, fun h' => (by rw [h] at h'; cases h'), fun vs' m' h' => ?_⟩
  rw [h] at h'
  injection h' with h'
  injection h' with h1 h2
  subst h1 h2
  exact ⟨A, c, rfl, rd⟩

/-- the first values of a row that is being written -/
def Part (w : World) (g k : Nat) (done : List V3) : Prop :=
  ∃ cs : Array Value, w.heap[g]? = some (.cells cs 44 (0, 0)) ∧ cs.size = k * 3 ∧ ∀ (i : Nat) (v : Value), (done.flatMap V3.cells)[i]? = some v → cs[i]? = some v
theorem Part.below {w w' : World} {g k : Nat} {done : List V3} (h : Part w g k done) (b : Below w.heap.size w w') : Part w' g k done := by
  obtain ⟨cs, h1, h2, h3⟩ := h
  exact ⟨cs, row_below h1 b, h2, h3⟩
theorem Part.cells {w : World} {g k j : Nat} {done : List V3} (h : Part w g k done) (hj : j < k) :
    (∃ a b c, w.cell? ⟨g, j * 3, none⟩ = some a ∧ w.cell? ⟨g, j * 3 + 1, none⟩ = some b ∧ w.cell? ⟨g, j * 3 + 2, none⟩ = some c) ∧ w.frozen? ⟨g, j * 3, none⟩ = false ∧ w.frozen? ⟨g, j * 3 + 1, none⟩ = false ∧ w.frozen? ⟨g, j * 3 + 2, none⟩ = false := by
  obtain ⟨cs, h1, h2, _⟩ := h
  refine ⟨⟨cs[j * 3]'(by omega), cs[j * 3 + 1]'(by omega), cs[j * 3 + 2]'(by omega), ?_, ?_, ?_⟩, frozen_row h1 _, frozen_row h1 _, frozen_row h1 _⟩
  all_goals rw [cell_row h1, Array.getElem?_eq_getElem]
theorem Part.put {w : World} {g k j : Nat} {done : List V3} (h : Part w g k done) (hd : done.length = j) (hj : j < k) (x : V3) :
    Part (((w.setCell ⟨g, j * 3, none⟩ (.int .i64 x.k)).setCell ⟨g, j * 3 + 1, none⟩ (.int .i64 x.n)).setCell ⟨g, j * 3 + 2, none⟩ (.string x.s)) g k (done ++ [x]) := by
  obtain ⟨cs, h1, h2, h3⟩ := h
  refine ⟨_, set_row (set_row (set_row h1 _ _) _ _) _ _, by simpa using h2, fun i v hv => ?_⟩
  have hl : (done.flatMap V3.cells).length = j * 3 := by rw [flat_len v3len, hd]
  rw [List.flatMap_append] at hv
  by_cases hi : i < j * 3
  · rw [List.getElem?_append_left (by omega)] at hv
    have := h3 i v hv
    simp only [Array.getElem?_setIfInBounds]
    rw [if_neg (by omega), if_neg (by omega), if_neg (by omega), this]
  · rw [List.getElem?_append_right (by omega), hl] at hv
    obtain ⟨q, rfl⟩ : ∃ q, i = j * 3 + q := ⟨i - j * 3, by omega⟩
    rw [Nat.add_sub_cancel_left] at hv
    simp only [Array.getElem?_setIfInBounds]
    match q, hv with
    | 0, hv => simp [V3.cells] at hv; subst hv; simp; omega
    | 1, hv => simp [V3.cells] at hv; subst hv; simp; omega
    | 2, hv => simp [V3.cells] at hv; subst hv; simp; omega
    | q + 3, hv => simp [V3.cells] at hv
theorem Part.whole {w : World} {g k : Nat} {done : List V3} (h : Part w g k done) (hd : done.length = k) (hk : k ≤ maxLen) : RdV w (some ⟨g, 0, none⟩) k k done := by
  obtain ⟨cs, h1, h2, h3⟩ := h
  refine ⟨hd, Nat.le_refl _, hk, fun _ => ⟨g, 0, rfl, (Array.getElem?_eq_some_iff.1 h1).1, fun j hj i v hv => ?_⟩⟩
  rw [Nat.zero_add, cell_row h1]
  exact h3 _ _ (flat_at v3len done j hj i v hv)

theorem Try.infoVal : (Try.prog.info? 44).map (fun i => (i.zero, i.size, i.bytes)) = some (some (.agg #[.int .i64 0, .int .i64 0, .string ⟨#[]⟩]), 3, 32) := by kernel_rfl
theorem made_rows (k : Nat) (hk : k ≤ 4294967296) : ∃ Z : Array Value, Z.size = k * 3 ∧ ∀ W : World, (Instr.makeSlice 24 (.int .i64 (k : Int)) (.int .i64 (k : Int))).run Try.prog W = .ok (.slice (some ⟨W.heap.size, 0, none⟩) k k) (W.alloc (.cells Z 44)) := by
  obtain ⟨i0, hi0, hz0, hz1, hz2⟩ := info_parts Try.infoVal
  refine ⟨madeCells (Value.cells (.agg #[.int .i64 0, .int .i64 0, .string ⟨#[]⟩])) (k * 3), size_madeCells _ _, fun W => ?_⟩
  have := run_make (P := Try.prog) W 24 44 i0 _ Try.underlying24 hi0 hz0 .i64 .i64 k k (by omega) (by omega) (by rw [hz2]; omega) (by omega)
  rw [hz1] at this
  simpa using this

set_option maxHeartbeats 3200000 in
theorem rowGet_any (A : Option Addr) (n c : Nat) (l : List Int) (w : World) (hrd : Rd w A n c (vals .u8 l)) (hb : ∀ x ∈ l, 0 ≤ x ∧ x ≤ 255) (hn : n ≤ 4294967296) :
    Calls Try.prog 22 #[.slice A n c] w fun e w' => GotRow (rowGetZ l) w e w' := by
  have hll : l.length = n := by simpa using hrd.len
  have hcap := hrd.cap
  have HRD := Lib.hid hrd; have HB := Lib.hid hb; have HLL := Lib.hid hll
  clear hrd hb hll
  cases hg : getZ l with
  | none =>
    have hN := Lib.hid (show rowGetZ l = none by rw [rowGetZ, hg])
    have P := Lib.hid (get_none HRD.out HB.out hg)
    clear hg
    go_enter Try.func22, Try.ntmps22
    go_wp2_with fail
    refine P.out.mono ?_
    rintro e w1 ⟨rfl, b1⟩
    go_wp2
    go_ret3
    exact got_no hN.out b1
  | some p =>
    obtain ⟨z, u⟩ := p
    have hs := getZ_some HB.out hg
    have hu : u ≤ n := by have := hs.2.2.2.2; have := HLL.out; omega
    have P := Lib.hid (get_some HRD.out HB.out hg)
    rcases Decidable.em (z < 0) with hz | hz
    · have hN := Lib.hid (show rowGetZ l = none by rw [rowGetZ, hg]; simp only []; rw [if_neg (by omega)])
      clear hg hs
      go_enter Try.func22, Try.ntmps22
      go_wp2_with fail
      refine P.out.mono ?_
      rintro e w1 ⟨rfl, b1⟩
      go_wp2
      go_ret3
      exact got_no hN.out b1
    · obtain ⟨k, rfl⟩ : ∃ k : Nat, z = k := ⟨z.toNat, by omega⟩
      have hz64 : (k : Int) ≤ 9223372036854775807 := hs.1.2
      obtain ⟨A1, HS, hsl⟩ := from_at HRD.out hu
      have HB2 : Hid (∀ x ∈ l.drop u, 0 ≤ x ∧ x ≤ 255) := Lib.hid fun x hx => HB.out x (List.mem_of_mem_drop hx)
      have HR := Lib.hid (show rowGetZ l = (getsZ k (l.drop u)).map (fun p => (p.1, u + p.2)) by rw [rowGetZ, hg]; simp only []; rw [if_pos (by omega)]; rfl)
      have T : ∀ r, (getsZ k (l.drop u)).isSome = r → Hid (∀ W, Below w.heap.size w W → Calls Try.prog 37 #[.slice A1 (n - u) (c - u), .int .i64 (k : Int)] W fun e W' => e = .returned (.bool r) ∧ Below W.heap.size W W') :=
        fun r hr => Lib.hid fun W hW => hr ▸ allThere_any _ _ _ _ _ W (HS.out.below hW) HB2.out (by omega) hz64
      clear hg hs
      have hz0 : ¬ ((k : Int) < 0) := hz
      clear hz
      cases hgs : getsZ k (l.drop u) with
      | none =>
        have hN := Lib.hid (show rowGetZ l = none by rw [HR.out, hgs]; rfl)
        have T := T false (by rw [hgs]; rfl)
        clear hgs HR
        go_enter Try.func22, Try.ntmps22
        go_wp2_with fail
        refine P.out.mono ?_
        rintro e w1 ⟨rfl, b1⟩
        go_wp2_with fail
        refine (T.out _ b1).mono ?_
        rintro e w2 ⟨rfl, b2⟩
        have B2 := below_then b1 b2
        go_wp2
        go_ret3
        exact got_no hN.out B2
      | some p =>
        obtain ⟨vs, m⟩ := p
        have HY := Lib.hid (show rowGetZ l = some (vs, u + m) by rw [HR.out, hgs]; rfl)
        have T := T true (by rw [hgs]; rfl)
        obtain ⟨hlen, hkm, hml, _, _, _⟩ := getsZ_some HB2.out hgs
        rw [List.length_drop, HLL.out] at hml
        have HLEN := Lib.hid hlen
        have HGS := Lib.hid hgs
        obtain ⟨Z, hZ, hmk⟩ := made_rows k (by omega)
        have HZ := Lib.hid hZ
        clear hgs HR hlen hZ
        go_enter Try.func22, Try.ntmps22
        go_wp2_with fail
        refine P.out.mono ?_
        rintro e w1 ⟨rfl, b1⟩
        go_wp2_with fail
        refine (T.out _ b1).mono ?_
        rintro e w2 ⟨rfl, b2⟩
        have B2 := below_then b1 b2
        clear hsl
        go_wp2_with fail
        obtain ⟨g, hgg, hg0⟩ : ∃ g, w2.heap.size = g ∧ w.heap.size ≤ g := ⟨_, rfl, B2.size⟩
        have hp0 : Part (w2.alloc (.cells Z 44)) g k [] := ⟨Z, by rw [← hgg]; exact heap_alloc_new _ _, HZ.out, by simp⟩
        have B3 := below_new B2 (.cells Z 44)
        have HP0 := Lib.hid hp0; clear hp0
        rw [hgg]
        have HGG := Lib.hid hgg; clear hgg
        go_loopw [6, 37] (fun us i wr => ∃ (j p q : Nat) (done rest : List V3), j ≤ k ∧ i = .int .i64 j ∧ us = .int .i64 p ∧ p ≤ n ∧ done.length = j ∧ Hid (done ++ rest = vs) ∧ p + q = u + m ∧ Hid (getsZ (k - j) (l.drop p) = some (rest, q)) ∧ Hid (Part wr g k done) ∧ Below w.heap.size w wr) (fun _ i _ => k - (intOf i).toNat)
        case atStart => exact ⟨0, u, m, [], vs, Nat.zero_le _, rfl, rfl, hu, rfl, rfl, rfl, HGS, HP0, B3⟩
        case round =>
          obtain ⟨j, p, q, done, rest, hj, rfl, rfl, hpn, hdl, hdr, hpq, hgr, HP, hbel⟩ := hrel
          clear B3
          by_cases hlt : j < k
          · have hki : (j : Int) < k := by omega
            have HBp : Hid (∀ x ∈ l.drop p, 0 ≤ x ∧ x ≤ 255) := Lib.hid fun x hx => HB.out x (List.mem_of_mem_drop hx)
            obtain ⟨x, rest', h, q', hr, hq, hh, hgr', PV⟩ : ∃ (x : V3) (rest' : List V3) (h q' : Nat), Hid (rest = x :: rest') ∧ q = h + q' ∧ p + h ≤ n ∧ Hid (getsZ (k - (j + 1)) (l.drop (p + h)) = some (rest', q')) ∧
                Hid (∀ A' W, Rd W A' (n - p) (c - p) (vals .u8 (l.drop p)) → Calls Try.prog 38 #[.slice A' (n - p) (c - p)] W fun e W' => e = .returned (.tuple #[x.agg, .int .i64 (h : Int), .int .i64 0]) ∧ Below W.heap.size W W') := by
              have h0 := hgr.out
              rw [show k - j = (k - (j + 1)) + 1 by omega, getsZ] at h0
              split at h0
              · rename_i hok
                simp only [Option.map_eq_some_iff, Prod.mk.injEq] at h0
                obtain ⟨⟨r', q'⟩, h1, h2, h3⟩ := h0
                have hl := hL_is HBp.out hok
                rw [List.length_drop, HLL.out] at hl
                refine ⟨hV (l.drop p), r', hL (l.drop p), q', h2.symm, h3.symm, by omega, ?_, Lib.hid fun A' W hW => valGet_yes hW HBp.out (by omega) hok⟩
                show _ = _
                rw [← h1, List.drop_drop]
              · cases h0
            obtain ⟨A2, HS2, hsl2⟩ := from_at HRD.out hpn
            have hpi : (p : Int) ≤ n := by omega
            have hsum : ((p : Int) + h) ≤ 9223372036854775807 := by omega
            clear hgr
            go_wp2_with fail
            refine (PV.out _ _ (HS2.out.below hbel)).mono ?_
            rintro e w4 ⟨rfl, b4⟩
            have B4 := below_new (below_then hbel b4) (.cells #[.int .i64 x.k, .int .i64 x.n, .string x.s] 44)
            have HP4 := Lib.hid (HP.out.below (below_new b4 (.cells #[.int .i64 x.k, .int .i64 x.n, .string x.s] 44)))
            obtain ⟨⟨a1, a2, a3, c1, c2, c3⟩, f1, f2, f3⟩ := HP4.out.cells hlt
            have HP5 := Lib.hid (HP4.out.put hdl hlt x)
            have B5 := ((B4.setCell (p := ⟨g, j * 3, none⟩) hg0 (.int .i64 x.k)).setCell (p := ⟨g, j * 3 + 1, none⟩) hg0 (.int .i64 x.n)).setCell (p := ⟨g, j * 3 + 2, none⟩) hg0 (.string x.s)
            clear hsl2
            go_wp2
            refine ⟨⟨j + 1, p + h, q', done ++ [x], rest', by omega, by go_num, by go_num, hh, by simp [hdl], ?_, by omega, hgr', HP5, B5⟩, by simp [intOf]; omega⟩
            show _ = _
            rw [← hdr.out, hr.out]; simp
          · obtain rfl : j = k := by omega
            have h0 := hgr.out
            rw [Nat.sub_self, getsZ] at h0
            injection h0 with h0
            injection h0 with h1 h2
            have hv : done = vs := by rw [← hdr.out, ← h1, List.append_nil]
            have hpm : p = u + m := by omega
            subst hv hpm
            clear h1 h2 hgr
            have HW := Lib.hid (HP.out.whole hdl (by simp only [maxLen]; omega))
            go_wp2
            go_ret3
            exact got_yes HY.out hdl hbel HW.out
end Go.Proofs.Ytijhcoidhlmecaa
