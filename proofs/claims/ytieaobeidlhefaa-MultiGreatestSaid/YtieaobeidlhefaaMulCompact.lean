/- Layer 7: Go's CompactFunc of a row of values: of those on end that are one, the first stays. -/
import Derived.Test.YtieaobeidlhefaaMbVal
import Derived.Lib.SliceRun
namespace Go.Proofs.Ytieaobeidlhefaa
set_option maxRecDepth 100000
open Go.RowKit Go.Sort Srt

def ddF (x : V3) : List V3 → List V3
  | [] => []
  | y :: l => if y = x then ddF x l else y :: ddF y l
/-- of those on end that are one, the first -/
def dd : List V3 → List V3
  | [] => []
  | x :: l => x :: ddF x l
theorem ddF_snoc : ∀ (l : List V3) (x z : V3), ddF x (l ++ [z]) = ddF x l ++ (if z = (x :: l).getLast (by simp) then [] else [z])
  | [], x, z => by by_cases h : z = x <;> simp [ddF, h]
  | y :: l, x, z => by
    rw [List.cons_append, ddF, ddF]
    by_cases h : y = x
    · subst h
      rw [if_pos rfl, if_pos rfl, ddF_snoc l y z]
      rw [List.getLast_cons (a := y) (l := y :: l) (by simp)]
    · rw [if_neg h, if_neg h, ddF_snoc l y z, List.cons_append]
      rw [List.getLast_cons (a := x) (l := y :: l) (by simp)]
theorem dd_step {l : List V3} {j : Nat} {x y : V3} (hy : l[j]? = some y) (hx : l[j + 1]? = some x) : dd (l.take (j + 1 + 1)) = dd (l.take (j + 1)) ++ (if x = y then [] else [x]) := by
  have h1 : l.take (j + 1 + 1) = l.take (j + 1) ++ [x] := by rw [List.take_add_one, hx]; rfl
  have h2 : l.take (j + 1) = l.take j ++ [y] := by rw [List.take_add_one, hy]; rfl
  rw [h1]
  cases hl : l.take (j + 1) with
  | nil => rw [hl] at h2; simp at h2
  | cons a r =>
    rw [List.cons_append, dd, dd, ddF_snoc, List.cons_append]
    have h3 : (a :: r).getLast (by simp) = y := by
      have h4 : (a :: r) = l.take j ++ [y] := by rw [← hl]; exact h2
      have h5 : (a :: r).getLast? = some y := by rw [h4]; simp
      rw [List.getLast?_eq_some_getLast (by simp)] at h5
      exact Option.some.inj h5
    rw [h3]
theorem ddF_sub : ∀ (l : List V3) (x : V3), (ddF x l).length ≤ l.length
  | [], _ => by simp [ddF]
  | y :: l, x => by
    rw [ddF]; split
    · have := ddF_sub l x; simp; omega
    · have := ddF_sub l y; simp; omega
theorem dd_len (l : List V3) : (dd l).length ≤ l.length := by
  cases l with
  | nil => simp [dd]
  | cons x l => have := ddF_sub l x; simp [dd]; omega
theorem dd_ne {l : List V3} (h : l ≠ []) : 0 < (dd l).length := by
  cases l with
  | nil => exact absurd rfl h
  | cons x l => simp [dd]
theorem ddF_mem : ∀ (l : List V3) (x z : V3), z ∈ x :: ddF x l ↔ z ∈ x :: l
  | [], x, z => by simp [ddF]
  | y :: l, x, z => by
    rw [ddF]
    by_cases h : y = x
    · subst h
      rw [if_pos rfl, ddF_mem l y z]; simp
    · rw [if_neg h]
      have := ddF_mem l y z
      simp only [List.mem_cons] at this ⊢
      rw [this]
theorem dd_mem (l : List V3) (z : V3) : z ∈ dd l ↔ z ∈ l := by
  cases l with
  | nil => simp [dd]
  | cons x l => exact ddF_mem l x z
theorem ddF_rise : ∀ (l : List V3) (x : V3), (x :: l).Pairwise (fun a b => leV a b = true) → (x :: ddF x l).Pairwise fun a b => ltV a b = true
  | [], x, _ => by simp [ddF]
  | y :: l, x, h => by
    have h1 := List.pairwise_cons.1 h
    have h2 := List.pairwise_cons.1 h1.2
    rw [ddF]
    by_cases e : y = x
    · subst e
      rw [if_pos rfl]
      exact ddF_rise l y h1.2
    · rw [if_neg e]
      have h3 := ddF_rise l y h1.2
      have hxy : ltV x y = true := by
        have h4 : ltV y x = false := by have := h1.1 y (by simp); simpa [leV] using this
        cases h5 : ltV x y with
        | true => rfl
        | false => exact absurd (ltV_tot h4 h5) e
      refine List.pairwise_cons.2 ⟨fun z hz => ?_, h3⟩
      rcases List.mem_cons.1 hz with rfl | hz
      · exact hxy
      · exact ltV_trans hxy ((List.pairwise_cons.1 h3).1 z hz)
theorem dd_rise {l : List V3} (h : l.Pairwise fun a b => leV a b = true) : (dd l).Pairwise fun a b => ltV a b = true := by
  cases l with
  | nil => simp [dd]
  | cons x l => exact ddF_rise l x h

theorem run_fromV {g o n cap k : Nat} (hk : k < n) (hn : n ≤ cap) (W : World) : (Instr.slice 54 (.slice (some ⟨g, o, none⟩) n cap) (some (.int .i64 (k : Int))) none none).run Try.prog W = .ok (.slice (some ⟨g, o + k * 3, none⟩) (n - k) (cap - k)) W := by
  have hz : (sizeOf (Try.prog.elem 54)).run Try.prog W = .ok 3 W := by kernel_rfl
  have ht : Try.prog.underlying 54 = some (.slice (Try.prog.elem 54)) := by kernel_rfl
  rw [run_slice_l (P := Try.prog) (w := W) (t := 54) (a := some ⟨g, o, none⟩) (len := n) (cap := cap) (ht := ht) (kl := .i64) (l := (k : Int)) (h0 := by omega) (h1 := by omega), hz]
  have hne : ¬ cap = k := by omega
  have h3 : (⟨g, o, none⟩ : Addr).add (k * 3) = ⟨g, o + k * 3, none⟩ := by unfold Addr.add; split <;> simp_all
  simp [Result.andThen, sliced, hne, h3]
theorem run_uptoVal {g o n cap k : Nat} (hk : k ≤ cap) (W : World) : (Instr.slice 54 (.slice (some ⟨g, o, none⟩) n cap) none (some (.int .i64 (k : Int))) none).run Try.prog W = .ok (.slice (some ⟨g, o, none⟩) k cap) W := by
  have hz : (sizeOf (Try.prog.elem 54)).run Try.prog W = .ok 3 W := by kernel_rfl
  have ht : Try.prog.underlying 54 = some (.slice (Try.prog.elem 54)) := by kernel_rfl
  rw [run_slice_h (P := Try.prog) (w := W) (t := 54) (a := some ⟨g, o, none⟩) (len := n) (cap := cap) (ht := ht) (kh := .i64) (h := (k : Int)) (h0 := by omega) (h2 := by omega), hz]
  have ha : (⟨g, o, none⟩ : Addr).add (0 * 3) = ⟨g, o, none⟩ := by simp [Addr.add]
  simp only [Result.andThen, sliced, Option.map, ha, Int.toNat_natCast, Nat.sub_zero, ite_self]
theorem run_clearV (n : Nat) (hn : 0 < n) : ∃ Z : List Value, Hid (Z.length = n * 3) ∧ Hid (∀ (ty : TypeId) (g o cap : Nat) (W : World), (∀ j, j < n * 3 → (W.cell? ⟨g, o + j, none⟩).isSome = true) → (∀ j, j < n * 3 → W.frozen? ⟨g, o + j, none⟩ = false) →
    (Builtin.clear_ #[54] ty #[.slice (some ⟨g, o, none⟩) n cap]).run Try.prog W = .ok (.tuple #[]) (W.setCells g o Z)) := by
  have hzv : ∀ w, (zeroValue 23).run Try.prog w = .ok (.agg #[.int .i64 0, .int .i64 0, .string ⟨#[]⟩]) w := fun _ => by kernel_rfl
  have hlen : (Builtin.zeroCells #[Value.int .i64 0, .int .i64 0, .string ⟨#[]⟩] n).toList.length = n * 3 := by simp [Builtin.zeroCells]
  refine ⟨(Builtin.zeroCells #[Value.int .i64 0, .int .i64 0, .string ⟨#[]⟩] n).toList, hlen, fun ty g o cap W hc hf => ?_⟩
  have h1 : ∀ v ∈ (Builtin.zeroCells #[Value.int .i64 0, .int .i64 0, .string ⟨#[]⟩] n).toList, v.oneCell' = true := by
    intro v hv
    simp only [Builtin.zeroCells, Array.toList_map, List.mem_map, Array.mem_toList_iff, Array.mem_range] at hv
    obtain ⟨i, _, rfl⟩ := hv
    have hm : i % 3 < 3 := Nat.mod_lt _ (by omega)
    have : i % 3 = 0 ∨ i % 3 = 1 ∨ i % 3 = 2 := by omega
    show (#[Value.int .i64 0, .int .i64 0, .string ⟨#[]⟩][i % 3]!).oneCell' = true
    rcases this with h | h | h <;> rw [h] <;> rfl
  have hst := run_storeCells_cells (P := Try.prog) g o _ 0 W (by rw [hlen]; simpa using hc) (by rw [hlen]; simpa using hf) h1
  simp only [Nat.add_zero] at hst
  obtain ⟨m, rfl⟩ : ∃ m, n = m + 1 := ⟨n - 1, by omega⟩
  simp [Builtin.clear_, run_underlying Try.underlying54, hzv, Value.cells, hst]

/-- values in a row that is being changed: their cells -/
theorem SwK.v3 {w0 W : World} {g o : Nat} {d : List V3} (h : SwK V3.cells 3 w0 g o d W) {j : Nat} {x : V3} (hx : d[j]? = some x) : W.cell? ⟨g, o + j * 3, none⟩ = some (.int .i64 x.k) ∧ W.cell? ⟨g, o + j * 3 + 1, none⟩ = some (.int .i64 x.n) ∧ W.cell? ⟨g, o + j * 3 + 2, none⟩ = some (.string x.s) :=
  ⟨h.cell j x hx 0 _ rfl, h.cell j x hx 1 _ rfl, h.cell j x hx 2 _ rfl⟩
theorem SwK.fz {w0 W : World} {g o : Nat} {d : List V3} (h : SwK V3.cells 3 w0 g o d W) {j : Nat} (hj : j < d.length) : W.frozen? ⟨g, o + j * 3, none⟩ = false ∧ W.frozen? ⟨g, o + j * 3 + 1, none⟩ = false ∧ W.frozen? ⟨g, o + j * 3 + 2, none⟩ = false := by
  have h1 := h.frozen (j * 3) (by omega)
  have h2 := h.frozen (j * 3 + 1) (by omega)
  have h3 := h.frozen (j * 3 + 2) (by omega)
  rw [← Nat.add_assoc] at h2 h3
  exact ⟨h1, h2, h3⟩
theorem drop_get {l D : List V3} {m j : Nat} (h : D.drop m = l.drop m) (hj : m ≤ j) : D[j]? = l[j]? := by
  have h1 : (D.drop m)[j - m]? = (l.drop m)[j - m]? := by rw [h]
  rw [List.getElem?_drop, List.getElem?_drop, show m + (j - m) = j by omega] at h1
  exact h1

set_option maxHeartbeats 6400000 in
theorem compact_any (g o n cap : Nat) (l : List V3) (w : World) (h : SwK V3.cells 3 w g o l w) (hl : l.length = n) (hn : n ≤ cap) (hc : cap ≤ maxLen) :
    Calls Try.prog 72 #[.slice (some ⟨g, o, none⟩) n cap, .func (.func 73) #[] #[]] w fun e w' => ∃ m, e = .returned (.slice (some ⟨g, o, none⟩) m cap) ∧ RdV w' (some ⟨g, o, none⟩) m cap (dd l) ∧ ∀ B, B ≤ g → B ≤ w.heap.size → Below B w w' := by
  have hle : n ≤ 9223372036854775807 := by simp only [maxLen] at hc; omega
  have HS := Lib.hid h; have HL := Lib.hid hl; have HC := Lib.hid hc
  have eg := Try.egSame
  clear h hl hc
  go_enter Try.func72, Try.ntmps72
  by_cases h2 : n < 2
  · have h2i : (n : Int) < 2 := by omega
    have hdd : Hid (dd l = l) := by
      have := HL.out
      match l, this with
      | [], _ => rfl
      | [x], _ => rfl
      | x :: y :: r, h => simp at h; omega
    go_wp2_with fail
    go_ret
    refine ⟨n, rfl, ?_, fun B _ _ => Below.refl _ _⟩
    rw [hdd.out]
    exact ⟨HL.out, hn, HC.out, fun _ => ⟨g, o, rfl, HS.out.lt, fun j hj i v hv => HS.out.cell j _ (List.getElem?_eq_getElem hj) i v hv⟩⟩
  · have h2i : ¬ (n : Int) < 2 := by omega
    go_wp2_with fail
    go_loopw [5] (fun v wr => ∃ k : Nat, 0 < k ∧ k ≤ n ∧ v = .int .i64 k ∧ Hid (dd (l.take k) = l.take k) ∧ Hid (Below w.heap.size w wr)) (fun v _ => n - (intOf v).toNat)
    case atStart => exact ⟨1, by omega, by omega, rfl, by
      show _ = _
      have := HL.out
      match l, this with
      | [], h => simp at h; omega
      | x :: r, _ => rfl, Below.refl _ _⟩
    case round =>
      obtain ⟨k, hk0, hk, rfl, hdd, hbel⟩ := hrel
      by_cases hlt : k < n
      · obtain ⟨j, hj⟩ : ∃ j, k = j + 1 := ⟨k - 1, by omega⟩
        have HSR := Lib.hid (HS.out.below hbel.out)
        obtain ⟨x, hx⟩ : ∃ x, l[k]? = some x := ⟨l[k]'(by rw [HL.out]; exact hlt), List.getElem?_eq_getElem _⟩
        obtain ⟨y, hy⟩ : ∃ y, l[j]? = some y := ⟨l[j]'(by rw [HL.out]; omega), List.getElem?_eq_getElem _⟩
        obtain ⟨x0, x1, x2⟩ := HSR.out.v3 hx
        obtain ⟨y0, y1, y2⟩ := HSR.out.v3 hy
        obtain ⟨r, hr⟩ : ∃ r, Hid (decide (x = y) = r) := ⟨_, rfl⟩
        have C : Hid (∀ W : World, Calls Try.prog 73 #[x.agg, y.agg] W fun e w' => e = .returned (.bool r) ∧ Below W.heap.size W w') := by
          intro W
          have := valSame_any x.k x.n y.k y.n x.s y.s W
          rw [sameZ_iff, hr.out] at this
          exact this
        have hstep : Hid (dd (l.take (k + 1)) = l.take k ++ (if x = y then [] else [x])) := by
          show _ = _
          rw [hj, dd_step hy (by rw [← hj]; exact hx), ← hj, hdd.out]
        have HX := Lib.hid hx
        have HJ := Lib.hid hj
        have z1 : (0 : Int) ≤ (k : Int) - 1 := by omega
        have z2 : (k : Int) - 1 < (n : Int) := by omega
        have z3 : ((k : Int) - 1).toNat = j := by omega
        have z4 : IntKind.i64.wrap ((k : Int) - 1) = (k : Int) - 1 := wrap_is (by omega)
        have z5 : (k : Int) < (n : Int) := by omega
        have z6 : (1 : Int) ≤ (k : Int) := by omega
        have z7 : 1 ≤ k := by omega
        have z8 : k - 1 = j := by omega
        have hS0 : Below wr.heap.size wr wr ∧ wr.cell? ⟨g, o + k * 3, none⟩ = some (.int .i64 x.k) ∧ wr.cell? ⟨g, o + k * 3 + 1, none⟩ = some (.int .i64 x.n) ∧ wr.cell? ⟨g, o + k * 3 + 2, none⟩ = some (.string x.s) ∧ wr.cell? ⟨g, o + j * 3, none⟩ = some (.int .i64 y.k) ∧ wr.cell? ⟨g, o + j * 3 + 1, none⟩ = some (.int .i64 y.n) ∧ wr.cell? ⟨g, o + j * 3 + 2, none⟩ = some (.string y.s) := ⟨Below.refl _ _, x0, x1, x2, y0, y1, y2⟩
        have K : Hid (∀ W W' : World, (Below wr.heap.size wr W ∧ W.cell? ⟨g, o + k * 3, none⟩ = some (.int .i64 x.k) ∧ W.cell? ⟨g, o + k * 3 + 1, none⟩ = some (.int .i64 x.n) ∧ W.cell? ⟨g, o + k * 3 + 2, none⟩ = some (.string x.s) ∧ W.cell? ⟨g, o + j * 3, none⟩ = some (.int .i64 y.k) ∧ W.cell? ⟨g, o + j * 3 + 1, none⟩ = some (.int .i64 y.n) ∧ W.cell? ⟨g, o + j * 3 + 2, none⟩ = some (.string y.s)) → Below W.heap.size W W' → (Below wr.heap.size wr W' ∧ W'.cell? ⟨g, o + k * 3, none⟩ = some (.int .i64 x.k) ∧ W'.cell? ⟨g, o + k * 3 + 1, none⟩ = some (.int .i64 x.n) ∧ W'.cell? ⟨g, o + k * 3 + 2, none⟩ = some (.string x.s) ∧ W'.cell? ⟨g, o + j * 3, none⟩ = some (.int .i64 y.k) ∧ W'.cell? ⟨g, o + j * 3 + 1, none⟩ = some (.int .i64 y.n) ∧ W'.cell? ⟨g, o + j * 3 + 2, none⟩ = some (.string y.s))) := by
          rintro W W' ⟨kk, k0, k1, k2, k3, k4, k5⟩ hb
          have hc : ∀ (p : Addr) (y : Value), W.cell? p = some y → W'.cell? p = some y := fun p y h2 => (hb.cell (World.block_lt_of_cell? _ _ h2)).trans h2
          exact ⟨below_then kk hb, hc _ _ k0, hc _ _ k1, hc _ _ k2, hc _ _ k3, hc _ _ k4, hc _ _ k5⟩
        clear hx hy hj
        go_wp2_with fail
        go_region_held3 (fun W => Below wr.heap.size wr W ∧ W.cell? ⟨g, o + k * 3, none⟩ = some (.int .i64 x.k) ∧ W.cell? ⟨g, o + k * 3 + 1, none⟩ = some (.int .i64 x.n) ∧ W.cell? ⟨g, o + k * 3 + 2, none⟩ = some (.string x.s) ∧ W.cell? ⟨g, o + j * 3, none⟩ = some (.int .i64 y.k) ∧ W.cell? ⟨g, o + j * 3 + 1, none⟩ = some (.int .i64 y.n) ∧ W.cell? ⟨g, o + j * 3 + 2, none⟩ = some (.string y.s))
          (first
            | exact K.out _ _ hS0 ((Below.refl _ _).drew)
            | exact K.out _ _ (by assumption) bb
            | assumption)
          (first
            | (go_at_call 73; refine (C.out _).mono ?_; rintro e wx ⟨rfl, bb⟩))
        have hSz : Below wr.heap.size wr wx ∧ wx.cell? ⟨g, o + k * 3, none⟩ = some (.int .i64 x.k) ∧ wx.cell? ⟨g, o + k * 3 + 1, none⟩ = some (.int .i64 x.n) ∧ wx.cell? ⟨g, o + k * 3 + 2, none⟩ = some (.string x.s) ∧ wx.cell? ⟨g, o + j * 3, none⟩ = some (.int .i64 y.k) ∧ wx.cell? ⟨g, o + j * 3 + 1, none⟩ = some (.int .i64 y.n) ∧ wx.cell? ⟨g, o + j * 3 + 2, none⟩ = some (.string y.s) := by assumption
        have B3 := Lib.hid (below_then hbel.out hSz.1)
        clear z1 z2 z3 z4 z6 z7 z8 hS0 K x0 x1 x2 y0 y1 y2 C
        cases r with
        | false =>
          have hne : ¬ x = y := of_decide_eq_false hr.out
          have hd2 : Hid (dd (l.take (k + 1)) = l.take (k + 1)) := by
            show _ = _
            rw [hstep.out, if_neg hne, List.take_add_one, HX.out]; rfl
          clear hne hr
          go_wp2_with fail
          exact ⟨⟨k + 1, by omega, by omega, by go_num, hd2, B3⟩, by simp [intOf]; omega⟩
        | true =>
          have hxy : x = y := of_decide_eq_true hr.out
          have hd2 : Hid (l.take k = dd (l.take (k + 1))) := by
            show _ = _
            rw [hstep.out, if_pos hxy, List.append_nil]
          have HSW := Lib.hid (HS.out.below B3.out)
          have F1 := run_fromV (g := g) (o := o) (n := n) (cap := cap) (k := k) hlt hn
          have hnk : IntKind.i64.wrap (1 : Int) = 1 := by rfl
          have HN := Lib.hid hn; have HLT := Lib.hid hlt; have HK0 := Lib.hid hk0
          clear hxy hr hstep hSz hbel HSR hdd
          go_wp2_with fail
          go_loopw [5, 7] (fun v u wr => ∃ (q j : Nat) (D : List V3), v = .int .i64 q ∧ u = .int .i64 j ∧ 1 ≤ j ∧ j ≤ n - k ∧ q < k + j ∧ 0 < q ∧ Hid (D.length = n) ∧ Hid (D.take q = dd (l.take (k + j))) ∧ Hid (D.drop (k + j - 1) = l.drop (k + j - 1)) ∧ Hid (SwK V3.cells 3 w g o D wr)) (fun _ u _ => n - (intOf u).toNat)
          case atStart => exact ⟨k, 1, l, rfl, rfl, by omega, by omega, by omega, by omega, HL, hd2, rfl, HSW⟩
          case round =>
            obtain ⟨q, j, D, rfl, rfl, hj1, hj2, hqj, hq0, hDl, hDt, hDd, hSD⟩ := hrel
            by_cases hjn : j < n - k
            · obtain ⟨m, hm⟩ : ∃ m, k + j = m + 1 := ⟨k + j - 1, by omega⟩
              obtain ⟨x, hx⟩ : ∃ x, l[k + j]? = some x := ⟨l[k + j]'(by rw [HL.out]; omega), List.getElem?_eq_getElem _⟩
              obtain ⟨y, hy⟩ : ∃ y, l[k + j - 1]? = some y := ⟨l[k + j - 1]'(by rw [HL.out]; omega), List.getElem?_eq_getElem _⟩
              have hxD : D[k + j]? = some x := by rw [drop_get hDd.out (by omega)]; exact hx
              have hyD : D[k + j - 1]? = some y := by rw [drop_get hDd.out (by omega)]; exact hy
              obtain ⟨x0, x1, x2⟩ := hSD.out.v3 hxD
              obtain ⟨y0, y1, y2⟩ := hSD.out.v3 hyD
              rw [show o + (k + j) * 3 = o + k * 3 + j * 3 by omega] at x0 x1 x2
              rw [show o + (k + j - 1) * 3 = o + k * 3 + (j - 1) * 3 by omega] at y0 y1 y2
              obtain ⟨r, hr⟩ : ∃ r, Hid (decide (x = y) = r) := ⟨_, rfl⟩
              have C : Hid (∀ W : World, Calls Try.prog 73 #[x.agg, y.agg] W fun e w' => e = .returned (.bool r) ∧ Below W.heap.size W w') := by
                intro W
                have := valSame_any x.k x.n y.k y.n x.s y.s W
                rw [sameZ_iff, hr.out] at this
                exact this
              have hstep : Hid (dd (l.take (k + j + 1)) = dd (l.take (k + j)) ++ (if x = y then [] else [x])) := by
                show _ = _
                have hy2 : l[m]? = some y := by rw [← hy]; congr 1; omega
                rw [hm, dd_step hy2 (by rw [← hm]; exact hx)]
              have HX := Lib.hid hx
              have z1 : (0 : Int) ≤ (j : Int) - 1 := by omega
              have z2 : (j : Int) - 1 < ((n - k : Nat) : Int) := by omega
              have z3 : ((j : Int) - 1).toNat = j - 1 := by omega
              have z4 : IntKind.i64.wrap ((j : Int) - 1) = (j : Int) - 1 := wrap_is (by omega)
              have z5 : (j : Int) < ((n - k : Nat) : Int) := by omega
              have z6 : (1 : Int) ≤ (j : Int) := by omega
              have z9 : IntKind.i64.wrap ((j : Int) + 1) = (j : Int) + 1 := wrap_is (by omega)
              have z10 : IntKind.i64.wrap ((q : Int) + 1) = (q : Int) + 1 := wrap_is (by omega)
              have z11 : (q : Int) < (n : Int) := by omega
              have hS0 : Below wr.heap.size wr wr ∧ wr.cell? ⟨g, o + k * 3 + j * 3, none⟩ = some (.int .i64 x.k) ∧ wr.cell? ⟨g, o + k * 3 + j * 3 + 1, none⟩ = some (.int .i64 x.n) ∧ wr.cell? ⟨g, o + k * 3 + j * 3 + 2, none⟩ = some (.string x.s) ∧ wr.cell? ⟨g, o + k * 3 + (j - 1) * 3, none⟩ = some (.int .i64 y.k) ∧ wr.cell? ⟨g, o + k * 3 + (j - 1) * 3 + 1, none⟩ = some (.int .i64 y.n) ∧ wr.cell? ⟨g, o + k * 3 + (j - 1) * 3 + 2, none⟩ = some (.string y.s) := ⟨Below.refl _ _, x0, x1, x2, y0, y1, y2⟩
              have K : Hid (∀ W W' : World, (Below wr.heap.size wr W ∧ W.cell? ⟨g, o + k * 3 + j * 3, none⟩ = some (.int .i64 x.k) ∧ W.cell? ⟨g, o + k * 3 + j * 3 + 1, none⟩ = some (.int .i64 x.n) ∧ W.cell? ⟨g, o + k * 3 + j * 3 + 2, none⟩ = some (.string x.s) ∧ W.cell? ⟨g, o + k * 3 + (j - 1) * 3, none⟩ = some (.int .i64 y.k) ∧ W.cell? ⟨g, o + k * 3 + (j - 1) * 3 + 1, none⟩ = some (.int .i64 y.n) ∧ W.cell? ⟨g, o + k * 3 + (j - 1) * 3 + 2, none⟩ = some (.string y.s)) → Below W.heap.size W W' → (Below wr.heap.size wr W' ∧ W'.cell? ⟨g, o + k * 3 + j * 3, none⟩ = some (.int .i64 x.k) ∧ W'.cell? ⟨g, o + k * 3 + j * 3 + 1, none⟩ = some (.int .i64 x.n) ∧ W'.cell? ⟨g, o + k * 3 + j * 3 + 2, none⟩ = some (.string x.s) ∧ W'.cell? ⟨g, o + k * 3 + (j - 1) * 3, none⟩ = some (.int .i64 y.k) ∧ W'.cell? ⟨g, o + k * 3 + (j - 1) * 3 + 1, none⟩ = some (.int .i64 y.n) ∧ W'.cell? ⟨g, o + k * 3 + (j - 1) * 3 + 2, none⟩ = some (.string y.s))) := by
                rintro W W' ⟨kk, k0, k1, k2, k3, k4, k5⟩ hb
                have hc : ∀ (p : Addr) (y : Value), W.cell? p = some y → W'.cell? p = some y := fun p y h2 => (hb.cell (World.block_lt_of_cell? _ _ h2)).trans h2
                exact ⟨below_then kk hb, hc _ _ k0, hc _ _ k1, hc _ _ k2, hc _ _ k3, hc _ _ k4, hc _ _ k5⟩
              clear hx hy hxD hyD
              go_wp2_with fail
              go_region_held3 (fun W => Below wr.heap.size wr W ∧ W.cell? ⟨g, o + k * 3 + j * 3, none⟩ = some (.int .i64 x.k) ∧ W.cell? ⟨g, o + k * 3 + j * 3 + 1, none⟩ = some (.int .i64 x.n) ∧ W.cell? ⟨g, o + k * 3 + j * 3 + 2, none⟩ = some (.string x.s) ∧ W.cell? ⟨g, o + k * 3 + (j - 1) * 3, none⟩ = some (.int .i64 y.k) ∧ W.cell? ⟨g, o + k * 3 + (j - 1) * 3 + 1, none⟩ = some (.int .i64 y.n) ∧ W.cell? ⟨g, o + k * 3 + (j - 1) * 3 + 2, none⟩ = some (.string y.s))
                (first
                  | exact K.out _ _ hS0 ((Below.refl _ _).drew)
                  | exact K.out _ _ (by assumption) bb
                  | assumption)
                (first
                  | (go_at_call 73; refine (C.out _).mono ?_; rintro e wx ⟨rfl, bb⟩))
              have hSz : Below wr.heap.size wr wx ∧ wx.cell? ⟨g, o + k * 3 + j * 3, none⟩ = some (.int .i64 x.k) ∧ wx.cell? ⟨g, o + k * 3 + j * 3 + 1, none⟩ = some (.int .i64 x.n) ∧ wx.cell? ⟨g, o + k * 3 + j * 3 + 2, none⟩ = some (.string x.s) ∧ wx.cell? ⟨g, o + k * 3 + (j - 1) * 3, none⟩ = some (.int .i64 y.k) ∧ wx.cell? ⟨g, o + k * 3 + (j - 1) * 3 + 1, none⟩ = some (.int .i64 y.n) ∧ wx.cell? ⟨g, o + k * 3 + (j - 1) * 3 + 2, none⟩ = some (.string y.s) := by assumption
              have hSD2 := Lib.hid (hSD.out.below hSz.1)
              obtain ⟨_, X0, X1, X2, _, _, _⟩ := hSz
              clear z1 z2 z3 z4 z6 hS0 K x0 x1 x2 y0 y1 y2 C hSD
              cases r with
              | true =>
                have hxy : x = y := of_decide_eq_true hr.out
                have hD2 : Hid (D.take q = dd (l.take (k + (j + 1)))) := by
                  show _ = _
                  rw [← Nat.add_assoc, hstep.out, if_pos hxy, List.append_nil]; exact hDt.out
                have hD3 : Hid (D.drop (k + (j + 1) - 1) = l.drop (k + (j + 1) - 1)) := by
                  show _ = _
                  have h1 := hDd.out
                  rw [show k + (j + 1) - 1 = (k + j - 1) + 1 by omega, ← List.drop_drop, ← List.drop_drop, h1]
                clear hxy hr hstep
                go_wp2_with fail
                exact ⟨⟨q, j + 1, D, rfl, by go_num, by omega, by omega, by omega, hq0, hDl, hD2, hD3, hSD2⟩, by simp [intOf]; omega⟩
              | false =>
                have hxy : ¬ x = y := of_decide_eq_false hr.out
                have hqD : q < D.length := by rw [hDl.out]; omega
                obtain ⟨u, hu⟩ : ∃ u, D[q]? = some u := ⟨_, List.getElem?_eq_getElem hqD⟩
                obtain ⟨u0, u1, u2⟩ := hSD2.out.v3 hu
                obtain ⟨f0, f1, f2⟩ := hSD2.out.fz hqD
                have hset : Hid (SwK V3.cells 3 w g o (D.set q x) (((wx.setCell ⟨g, o + q * 3, none⟩ (.int .i64 x.k)).setCell ⟨g, o + q * 3 + 1, none⟩ (.int .i64 x.n)).setCell ⟨g, o + q * 3 + 2, none⟩ (.string x.s))) := hSD2.out.set encV hqD x
                have hD1 : Hid ((D.set q x).length = n) := by show _ = _; rw [List.length_set]; exact hDl.out
                have hD2 : Hid ((D.set q x).take (q + 1) = dd (l.take (k + (j + 1)))) := by
                  show _ = _
                  rw [← Nat.add_assoc, hstep.out, if_neg hxy, ← hDt.out, List.take_add_one, List.getElem?_set_self hqD, List.take_set_of_le (Nat.le_refl q)]; rfl
                have hD3 : Hid ((D.set q x).drop (k + (j + 1) - 1) = l.drop (k + (j + 1) - 1)) := by
                  show _ = _
                  have h1 := hDd.out
                  rw [List.drop_set_of_lt (by omega), show k + (j + 1) - 1 = (k + j - 1) + 1 by omega, ← List.drop_drop, ← List.drop_drop, h1]
                clear hxy hr hstep hu hSD2
                go_wp2_with fail
                exact ⟨⟨q + 1, j + 1, D.set q x, by go_num, by go_num, by omega, by omega, by omega, by omega, hD1, hD2, hD3, hset⟩, by simp [intOf]; omega⟩
            · obtain rfl : j = n - k := by omega
              have hDD : Hid (D.take q = dd l) := by
                show _ = _
                rw [hDt.out, show k + (n - k) = n by omega, List.take_of_length_le (by rw [HL.out]; exact Nat.le_refl _)]
              have hqn : q < n := by omega
              obtain ⟨Z, hZl, hZ⟩ := run_clearV (n - q) (by omega)
              have F2 := run_fromV (g := g) (o := o) (n := n) (cap := cap) (k := q) hqn hn
              have F3 := run_uptoVal (g := g) (o := o) (n := n) (cap := cap) (k := q) (by omega)
              have F4 : ∀ ty, (Builtin.clear_ #[54] ty #[.slice (some ⟨g, o + q * 3, none⟩) (n - q) (cap - q)]).run Try.prog wr = .ok (.tuple #[]) (wr.setCells g (o + q * 3) Z) := fun ty => by
                refine hZ.out ty g (o + q * 3) (cap - q) wr (fun i hi => ?_) (fun i hi => ?_)
                · have hlt : q + i / 3 < D.length := by rw [hDl.out]; omega
                  have h1 := hSD.out.cell (q + i / 3) _ (List.getElem?_eq_getElem hlt) (i % 3) _ (List.getElem?_eq_getElem (by rw [v3len]; exact Nat.mod_lt _ (by omega)))
                  rw [show o + (q + i / 3) * 3 + i % 3 = o + q * 3 + i by omega] at h1
                  rw [h1]; rfl
                · have h1 := hSD.out.frozen (q * 3 + i) (by rw [hDl.out]; omega)
                  rwa [← Nat.add_assoc] at h1
              have hrd : Hid (RdV (wr.setCells g (o + q * 3) Z) (some ⟨g, o, none⟩) q cap (dd l)) := by
                show RdV _ _ _ _ _
                have hql : (dd l).length = q := by rw [← hDD.out, List.length_take, hDl.out]; omega
                refine ⟨hql, by omega, HC.out, fun _ => ⟨g, o, rfl, by rw [size_setCells]; exact hSD.out.lt, fun i hi a v hv => ?_⟩⟩
                have hi2 : i < q := by omega
                have hget : D[i]? = some (dd l)[i] := by
                  have h1 : (D.take q)[i]? = (dd l)[i]? := by rw [hDD.out]
                  rw [List.getElem?_take, if_pos hi2] at h1
                  rw [h1]; exact List.getElem?_eq_getElem hi
                have ha : a < 3 := (List.getElem?_eq_some_iff.1 hv).1
                rw [World.cell?_setCells_out g _ _ _ _ (fun _ _ => by left; show o + i * 3 + a < o + q * 3; omega)]
                exact hSD.out.cell i _ hget a v hv
              have hbl : Hid (∀ B, B ≤ g → B ≤ w.heap.size → Below B w (wr.setCells g (o + q * 3) Z)) := fun B h1 h2 =>
                ⟨(setCells_os _ _ _ _).trans hSD.out.os, (setCells_tape _ _ _ _).trans hSD.out.tape, (setCells_output _ _ _ _).trans hSD.out.output, by rw [size_setCells]; exact hSD.out.size, fun i hi => by
                  rw [setCells_block _ _ _ _ _ (by omega)]; exact hSD.out.block i (by omega) (by omega)⟩
              clear hDt hDd hSD hZ hDl hZl
              generalize wr.setCells g (o + q * 3) Z = wz at F4 hrd hbl
              go_wp2_with fail
              go_ret
              exact ⟨q, rfl, hrd.out, hbl.out⟩
      · obtain rfl : k = n := by omega
        have hDD : Hid (dd l = l) := by
          have := hdd.out
          rwa [List.take_of_length_le (by rw [HL.out]; exact Nat.le_refl _)] at this
        have HSR := Lib.hid (HS.out.below hbel.out)
        go_wp2_with fail
        go_ret
        refine ⟨k, rfl, ?_, fun B _ h2 => hbel.out.mono h2⟩
        rw [hDD.out]
        exact ⟨HL.out, hn, HC.out, fun _ => ⟨g, o, rfl, HSR.out.lt, fun j hj i v hv => HSR.out.cell j _ (List.getElem?_eq_getElem hj) i v hv⟩⟩
end Go.Proofs.Ytieaobeidlhefaa
