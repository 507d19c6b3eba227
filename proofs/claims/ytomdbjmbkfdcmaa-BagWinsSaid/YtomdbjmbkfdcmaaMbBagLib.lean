/- Layer 9: of Go's library: IndexFunc, ContainsFunc, Clone, Grow, Concat, at parts. -/
import Derived.Test.YtomdbjmbkfdcmaaMbBagTake
import Derived.Test.YtomdbjmbkfdcmaaMbJoin
import Derived.Lib.AppendZerosOnto
namespace Go.Proofs.Ytomdbjmbkfdcmaa
set_option maxRecDepth 100000
open Go.RowKit Go.Sort

/-- the place of the first part of which p says so, or -1 -/
def idxF (p : P11 → Bool) (l : List P11) : Int := if l.any p = true then (l.findIdx p : Nat) else -1
theorem idxF_hit {p : P11 → Bool} {l : List P11} {k : Nat} {x : P11} (hno : ∀ y ∈ l.take k, p y = false) (hx : l[k]? = some x) (hp : p x = true) : idxF p l = (k : Nat) := by
  have hk : k < l.length := (List.getElem?_eq_some_iff.1 hx).1
  have h1 : l.any p = true := List.any_eq_true.2 ⟨x, List.mem_of_getElem? hx, hp⟩
  have h2 : l.findIdx p = k := by
    refine (List.findIdx_eq hk).2 ⟨?_, fun j hj => ?_⟩
    · rw [(List.getElem?_eq_some_iff.1 hx).2]; exact hp
    · have : l[j]'(by omega) ∈ l.take k := List.mem_take_iff_getElem.2 ⟨j, by omega, rfl⟩
      simpa using hno _ this
  rw [idxF, if_pos h1, h2]
theorem idxF_miss {p : P11 → Bool} {l : List P11} (hno : ∀ y ∈ l, p y = false) : idxF p l = -1 := by
  rw [idxF, if_neg]
  intro h
  obtain ⟨x, hx, hp⟩ := List.any_eq_true.1 h
  rw [hno x hx] at hp; cases hp
theorem no_next {p : P11 → Bool} {l : List P11} {k : Nat} {x : P11} (hno : ∀ y ∈ l.take k, p y = false) (hx : l[k]? = some x) (hp : p x = false) : ∀ y ∈ l.take (k + 1), p y = false := by
  intro y hy
  rw [List.take_add_one, hx] at hy
  rcases List.mem_append.1 hy with h | h
  · exact hno y h
  · simp at h; subst h; exact hp

set_option maxHeartbeats 3200000 in
theorem indexFunc_any (g : Nat) (r : Value) (p : P11 → Bool) (A : Option Addr) (n c : Nat) (l : List P11) (w : World) (eg : ∀ args w, (callFunc g args).run Try.prog w = .ok (.enter g args) w)
    (h : RdP w A n c l) (hp : TellsR Try.prog g r p w) :
    Calls Try.prog 61 #[.slice A n c, .func (.func g) #[r] #[]] w fun e w' => e = .returned (.int .i64 (idxF p l)) ∧ Below w.heap.size w w' := by
  have HRD := Lib.hid h; have HL := Lib.hid h.len; have HP := Lib.hid hp
  have hle := h.le
  obtain ⟨R, hR⟩ : ∃ R, Hid (idxF p l = R) := ⟨_, rfl⟩
  rw [hR.out]
  clear h hp
  go_enter Try.func61, Try.ntmps61
  go_wp2_with fail
  go_loopw [8] (fun i wr => ∃ k : Nat, k ≤ n ∧ i = .int .i64 k ∧ Hid (∀ y ∈ l.take k, p y = false) ∧ Hid (Below w.heap.size w wr)) (fun i _ => n - (intOf i).toNat)
  case atStart => exact ⟨0, Nat.zero_le _, rfl, by intro y hy; simp at hy, Below.refl _ _⟩
  case round =>
    obtain ⟨k, hk, rfl, hno, hbel⟩ := hrel
    by_cases hlt : k < n
    · obtain ⟨b, o, x, rfl, hb, hx, hld⟩ := HRD.out.part hlt
      obtain ⟨c0, c1, c2, c3, c4, c5, c6, c7, c8, c9, c10⟩ := hld _ hbel.out
      obtain ⟨rr, hrr, C⟩ : ∃ rr, Hid (p x = rr) ∧ Hid (Calls Try.prog g #[r, x.agg] wr fun e W' => e = .returned (.bool rr) ∧ Below wr.heap.size wr W') := ⟨_, rfl, HP.out _ hbel.out x⟩
      have HX := Lib.hid hx
      clear hld hx
      go_wp2_with fail
      refine C.out.mono ?_
      rintro e w2 ⟨rfl, b2⟩
      have B3 := Lib.hid (below_then hbel.out b2)
      clear b2 C c0 c1 c2 c3 c4 c5 c6 c7 c8 c9 c10
      cases rr with
      | true =>
        have HF : Hid ((k : Int) = R) := by show _ = _; rw [← hR.out, idxF_hit hno.out HX.out hrr.out]
        go_wp2_with fail
        go_ret
        exact ⟨ret_int HF.out, B3.out⟩
      | false =>
        have HN := Lib.hid (no_next hno.out HX.out hrr.out)
        go_wp2_with fail
        exact ⟨⟨k + 1, by omega, by go_num, HN, B3⟩, by simp [intOf]; omega⟩
    · have HF : Hid ((-1 : Int) = R) := by
        show _ = _
        have h1 := HL.out
        have h2 := hno.out
        rw [List.take_of_length_le (by omega)] at h2
        rw [← hR.out, idxF_miss h2]
      go_wp2_with fail
      go_ret
      exact ⟨ret_int HF.out, hbel.out⟩

theorem containsFunc_any (g : Nat) (r : Value) (p : P11 → Bool) (A : Option Addr) (n c : Nat) (l : List P11) (w : World) (eg : ∀ args w, (callFunc g args).run Try.prog w = .ok (.enter g args) w)
    (h : RdP w A n c l) (hp : TellsR Try.prog g r p w) :
    Calls Try.prog 58 #[.slice A n c, .func (.func g) #[r] #[]] w fun e w' => e = .returned (.bool (l.any p)) ∧ Below w.heap.size w w' := by
  obtain ⟨R, hR, C⟩ : ∃ R, Hid (idxF p l = R) ∧ Hid (Calls Try.prog 61 #[.slice A n c, .func (.func g) #[r] #[]] w fun e w' => e = .returned (.int .i64 R) ∧ Below w.heap.size w w') := ⟨_, rfl, indexFunc_any g r p A n c l w eg h hp⟩
  have HR : Hid (l.any p = decide (0 ≤ R)) := by
    show _ = _
    rw [← hR.out, idxF]
    split
    · rename_i h; rw [h]; symm; exact decide_eq_true (by omega)
    · rename_i h; rw [Bool.not_eq_true] at h; rw [h]; symm; exact decide_eq_false (by omega)
  rw [HR.out]
  clear h hp
  go_enter Try.func58, Try.ntmps58
  go_wp2_with (go_at_call 61; refine C.out.mono ?_; rintro e w2 ⟨rfl, b2⟩)
  go_ret
  exact ⟨rfl, b2⟩

theorem run_app0P {w : World} (A : Option Addr) (m c : Nat) (l : List P11) (hrd : RdP w A m c l) (hn : m ≤ 4294967296) (ty : TypeId) :
    ∃ v' w', (Builtin.append_ #[24, 24] ty #[.slice (some ⟨w.heap.size, 0, none⟩) 0 0, .slice A m c]).run Try.prog (w.alloc (.cells #[] 30)) = .ok v' w' ∧ w'.ownsRow w.heap.size 30 11 v' m (l.flatMap P11.cells) ∧ Below w.heap.size w w' := by
  have hown : (w.alloc (.cells #[] 30)).ownsRow w.heap.size 30 11 (.slice (some ⟨w.heap.size, 0, none⟩) 0 0) 0 (([] : List P11).flatMap P11.cells) := World.ownsRow_made w #[] 0 (Nat.le_refl _) (by simp [maxLen]) rfl
  obtain ⟨v', w', h1, h2, h3, _⟩ := run_appP (W0 := w) w.heap.size _ 0 [] A m c l hown (hrd.alloc _) (by omega) (below_new (Below.refl _ _) _) (by simp) ty
  rw [Nat.zero_add, List.nil_append] at h2
  exact ⟨v', w', h1, h2, h3⟩

set_option maxHeartbeats 1600000 in
theorem cloneP_any (A : Option Addr) (m c : Nat) (l : List P11) (w : World) (h : RdP w A m c l) (hn : m ≤ 4294967296) :
    Calls Try.prog 60 #[.slice A m c] w fun e w' => ∃ A' c', e = .returned (.slice A' m c') ∧ RdP w' A' m c' l ∧ Below w.heap.size w w' ∧ ∀ a, A' = some a → w.heap.size ≤ a.block := by
  cases A with
  | none =>
    have hm : m = 0 := by
      rcases Nat.eq_zero_or_pos m with h0 | h0
      · exact h0
      · obtain ⟨_, _, e, _⟩ := h.hsize h0; cases e
    subst hm
    obtain rfl : l = [] := List.eq_nil_of_length_eq_zero h.len
    have EN := fun W : World => Lib.run_eql_slice_nil (P := Try.prog) W 24 30 none 0 c 0 0 Try.underlying24
    clear h hn
    go_enter Try.func60, Try.ntmps60
    go_wp2
    go_ret
    exact ⟨none, 0, rfl, RdG.nil_ _, Below.refl _ _, fun a e => by cases e⟩
  | some a =>
    obtain ⟨v', w', hr, hown, hb⟩ := run_app0P (some a) m c l h hn 24
    have EN := fun W : World => Lib.run_eql_slice_nil (P := Try.prog) W 24 30 (some a) m c 0 0 Try.underlying24
    have HO := Lib.hid hown; have HB := Lib.hid hb
    clear h hn hown hb
    go_enter Try.func60, Try.ntmps60
    go_wp2_with (at_builtin; refine Lib.wpList_append_run _ rfl _ _ _ _ rfl _ _ rfl rfl _ _ hr ?_)
    go_ret
    obtain ⟨A', c', rfl, hrd⟩ := RdG.own_ p11len (by omega) HO.out
    exact ⟨A', c', rfl, hrd, HB.out, fun a ha => (HO.out.lt a.block (by rw [ha]; rfl)).1⟩

theorem run_zerosP (k : Nat) (h0 : 1 ≤ k) (hk : k ≤ 4294967296) (w : World) (ty : TypeId) : ∃ G W1, (Builtin.append_ #[24, 3] ty #[.slice none 0 0, .int .i64 k]).run Try.prog w = .ok (.slice (some ⟨w.heap.size, 0, none⟩) k G) W1
    ∧ W1.ownsRow w.heap.size 30 11 (.slice (some ⟨w.heap.size, 0, none⟩) 0 G) 0 [] ∧ Below w.heap.size w W1 ∧ k ≤ G ∧ G ≤ maxLen := by
  obtain ⟨i0, hi0, hz0, hzs, hzb⟩ := info_parts Try.infoPart
  obtain ⟨ZZ, hZZ⟩ : ∃ ZZ : Value, ZZ = .agg #[.int .i64 0, .int .i64 0, .string ⟨#[]⟩, .int .i64 0, .int .i64 0, .int .i64 0, .int .i64 0, .int .i64 0, .int .i64 0, .int .i64 0, .bool false] := ⟨_, rfl⟩
  have hZs : ZZ.cells.size = 11 := by rw [hZZ]; rfl
  rw [← hZZ] at hz0
  have h := Lib.run_append_nil_zeros w 24 3 ty 30 i0 _ .i64 .i64 Try.underlying24 Try.underlying3 hi0 hz0 k (by omega) (by omega) (by omega) (by rw [hzb]; omega)
  have hge := grownCap_ge w k 0 30
  have hcm : grownCap w k 0 30 ≤ maxLen := grownCap_le_maxLen w k 0 30 (by simp only [maxLen]; omega)
  have hzl : ∀ q, (Builtin.zeroCells ZZ.cells q).size = q * 11 := fun q => by simp [Builtin.zeroCells, hZs]
  refine ⟨_, _, h, ?_, ?_, hge, hcm⟩
  · exact World.ownsRow_made w.drew _ _ (Nat.le_refl _) hcm (by rw [Array.size_append, hzl, hzl, ← Nat.add_mul]; congr 1; omega)
  · exact ((Below.refl _ _).drew).alloc (Nat.le_refl _) _

set_option maxHeartbeats 1600000 in
theorem growNil_any (k : Nat) (h0 : 1 ≤ k) (hk : k ≤ 4294967296) (w : World) :
    Calls Try.prog 93 #[.slice none 0 0, .int .i64 k] w fun e w' => ∃ v, e = .returned v ∧ w'.ownsRow w.heap.size 30 11 v 0 (([] : List P11).flatMap P11.cells) ∧ Below w.heap.size w w' := by
  obtain ⟨G, W1, hr, hown, hb, hG, hGm⟩ := run_zerosP k h0 hk w 24
  have HO := Lib.hid hown; have HB := Lib.hid hb
  have z1 : ¬ ((k : Int) < 0) := by omega
  have z2 : (0 : Int) < (k : Int) := by omega
  have z3 : IntKind.i64.wrap ((k : Int) - 0) = (k : Int) := by rw [Int.sub_zero]; exact wrap_is (by omega)
  have z4 : IntKind.i64.wrap (k : Int) = (k : Int) := wrap_is (by omega)
  have z5 : 0 < k := h0
  clear hown hb
  go_enter Try.func93, Try.ntmps93
  go_wp2_with (at_builtin; refine Lib.wpList_append_run _ rfl _ _ _ _ rfl _ _ rfl rfl _ _ hr ?_)
  go_ret
  exact ⟨_, rfl, HO.out, HB.out⟩

abbrev catCells (X Y Z : Value) : Obj := .cells #[X, Y, Z] 24
set_option maxHeartbeats 6400000 in
theorem concat3_any (b0 : Nat) (A1 : Option Addr) (n1 c1 : Nat) (l1 : List P11) (A2 : Option Addr) (n2 c2 : Nat) (l2 : List P11) (A3 : Option Addr) (n3 c3 : Nat) (l3 : List P11) (w : World) (h : w.heap[b0]? = some (catCells (.slice A1 n1 c1) (.slice A2 n2 c2) (.slice A3 n3 c3)))
    (h1 : RdP w A1 n1 c1 l1) (h2 : RdP w A2 n2 c2 l2) (h3 : RdP w A3 n3 c3 l3) (hp : 1 ≤ n1 + n2 + n3) (hn : n1 + n2 + n3 ≤ 4294967296) :
    Calls Try.prog 62 #[.slice (some ⟨b0, 0, none⟩) 3 3] w fun e w' => ∃ A' c', e = .returned (.slice A' (n1 + n2 + n3) c') ∧ RdP w' A' (n1 + n2 + n3) c' (l1 ++ l2 ++ l3) ∧ Below w.heap.size w w' ∧ ∀ a, A' = some a → w.heap.size ≤ a.block := by
  have KC : Hid (∀ W, Below w.heap.size w W → W.cell? ⟨b0, 0, none⟩ = some (.slice A1 n1 c1) ∧ W.cell? ⟨b0, 1, none⟩ = some (.slice A2 n2 c2) ∧ W.cell? ⟨b0, 2, none⟩ = some (.slice A3 n3 c3)) := by
    intro W hW
    have hr := cell_row (row_below h hW)
    exact ⟨by rw [hr]; rfl, by rw [hr]; rfl, by rw [hr]; rfl⟩
  have H1 := Lib.hid h1; have H2 := Lib.hid h2; have H3 := Lib.hid h3
  have L1 := Lib.hid h1.len; have L2 := Lib.hid h2.len; have L3 := Lib.hid h3.len
  have HN := Lib.hid hn
  obtain ⟨N, hN⟩ : ∃ N, Hid (n1 + n2 + n3 = N) := ⟨_, rfl⟩
  rw [hN.out]
  have GR := Lib.hid (fun W => growNil_any N (by rw [← hN.out]; exact hp) (by rw [← hN.out]; exact hn) W)
  have HLL : Hid ((l1 ++ l2 ++ l3).length = N) := by show _ = _; rw [List.length_append, List.length_append, L1.out, L2.out, L3.out, hN.out]
  have p1 : n1 ≤ 4294967296 := by omega
  have p2 : n2 ≤ 4294967296 := by omega
  have p3 : n3 ≤ 4294967296 := by omega
  have z1 : IntKind.i64.wrap ((0 : Int) + (n1 : Int)) = (n1 : Int) := by rw [Int.zero_add]; exact wrap_is (by omega)
  have z1' : IntKind.i64.wrap (n1 : Int) = (n1 : Int) := wrap_is (by omega)
  have z2 : IntKind.i64.wrap ((n1 : Int) + (n2 : Int)) = (n1 : Int) + (n2 : Int) := wrap_is (by omega)
  have z3 : IntKind.i64.wrap ((n1 : Int) + (n2 : Int) + (n3 : Int)) = (N : Int) := by have := hN.out; rw [wrap_is (by omega)]; omega
  have y1 : ¬ ((n1 : Int) < 0) := by omega
  have y2 : ¬ ((n1 : Int) + (n2 : Int) < 0) := by omega
  have y3 : ¬ ((N : Int) < 0) := by omega
  obtain ⟨k0, k1, k2⟩ := KC.out w (Below.refl _ _)
  clear h h1 h2 h3 hp hn
  go_enter Try.func62, Try.ntmps62
  go_wp2_with fail
  go_loopw [3, 11] (fun s i wr => ∃ k : Nat, k ≤ 3 ∧ i = .int .i64 k ∧ Hid (k = 0 → s = .int .i64 0) ∧ Hid (k = 1 → s = .int .i64 n1) ∧ Hid (k = 2 → s = .int .i64 ((n1 : Int) + (n2 : Int))) ∧ Hid (k = 3 → s = .int .i64 N) ∧ wr = w) (fun _ i _ => 3 - (intOf i).toNat)
  case atStart => exact ⟨0, by omega, rfl, fun _ => rfl, fun h => by omega, fun h => by omega, fun h => by omega, rfl⟩
  case round =>
    obtain ⟨k, hk, rfl, s0, s1, s2, s3, rfl⟩ := hrel
    rcases (show k = 0 ∨ k = 1 ∨ k = 2 ∨ k = 3 by omega) with rfl | rfl | rfl | rfl
    · obtain rfl := s0.out rfl
      clear s0 s1 s2 s3
      go_wp2_with fail
      exact ⟨⟨1, by omega, rfl, fun h => by omega, fun _ => rfl, fun h => by omega, fun h => by omega, by trivial⟩, by simp [intOf]⟩
    · obtain rfl := s1.out rfl
      clear s0 s1 s2 s3
      go_wp2_with fail
      exact ⟨⟨2, by omega, rfl, fun h => by omega, fun h => by omega, fun _ => rfl, fun h => by omega, by trivial⟩, by simp [intOf]⟩
    · obtain rfl := s2.out rfl
      clear s0 s1 s2 s3
      go_wp2_with fail
      exact ⟨⟨3, by omega, rfl, fun h => by omega, fun h => by omega, fun h => by omega, fun _ => rfl, by trivial⟩, by simp [intOf]⟩
    · obtain rfl := s3.out rfl
      clear s0 s1 s2 s3 z1 z1' z2 z3 y1 y2 y3
      go_wp2_with (go_at_call 93; refine (GR.out _).mono ?_; rintro e w2 ⟨v2, rfl, hown2, b2⟩)
      have HO := Lib.hid hown2; have HB := Lib.hid b2
      clear hown2 b2 k0 k1 k2 GR
      obtain ⟨w0, rfl⟩ : ∃ w0, w0 = wr := ⟨_, rfl⟩
      go_loopw [6, 27] (fun v i wr => ∃ (k : Nat) (done : List P11), k ≤ 3 ∧ i = .int .i64 k ∧ Hid (k = 0 → done = []) ∧ Hid (k = 1 → done = l1) ∧ Hid (k = 2 → done = l1 ++ l2) ∧ Hid (k = 3 → done = l1 ++ l2 ++ l3) ∧ Hid (wr.ownsRow w0.heap.size 30 11 v done.length (done.flatMap P11.cells)) ∧ Hid (Below w0.heap.size w0 wr)) (fun _ i _ => 3 - (intOf i).toNat)
      case atStart => exact ⟨0, [], by omega, rfl, fun _ => rfl, fun h => by omega, fun h => by omega, fun h => by omega, HO, HB⟩
      case round =>
        clear HO HB
        obtain ⟨k, done, hk, rfl, s0, s1, s2, s3, HO, HB⟩ := hrel
        rcases (show k = 0 ∨ k = 1 ∨ k = 2 ∨ k = 3 by omega) with rfl | rfl | rfl | rfl
        · have e0 := s0.out rfl
          rw [e0] at HO
          clear s0 s1 s2 s3 e0 done
          have hq : ([] : List P11).length + n1 ≤ 4294967296 := by have h1 := HN.out; have h2 := L1.out; have h3 := L2.out; have h4 := L3.out; (try rw [List.length_append]); (try rw [List.length_nil]); omega
          obtain ⟨v', w', hr, hown, hb, hs⟩ := run_appP (W0 := w0) w0.heap.size u6 ([] : List P11).length ([]) A1 n1 c1 l1 HO.out (H1.out.below HB.out) hq HB.out HB.out.size 24
          have HO2 : Hid (w'.ownsRow w0.heap.size 30 11 v' (([] : List P11) ++ l1).length ((([] : List P11) ++ l1).flatMap P11.cells)) := by show World.ownsRow _ _ _ _ _ _ _; rw [List.length_append, L1.out]; exact hown
          have HB2 := Lib.hid hb
          obtain ⟨q0, q1, q2⟩ := KC.out wr HB.out
          clear hown hb hs hq HO
          go_wp2_with (at_builtin; refine Lib.wpList_append_run _ rfl _ _ _ _ rfl _ _ rfl rfl _ _ hr ?_)
          exact ⟨⟨1, _, by omega, rfl, fun h => by omega, fun _ => List.nil_append _, fun h => by omega, fun h => by omega, HO2, HB2⟩, by simp [intOf]⟩
        · have e0 := s1.out rfl
          rw [e0] at HO
          clear s0 s1 s2 s3 e0 done
          have hq : (l1 : List P11).length + n2 ≤ 4294967296 := by have h1 := HN.out; have h2 := L1.out; have h3 := L2.out; have h4 := L3.out; (try rw [List.length_append]); (try rw [List.length_nil]); omega
          obtain ⟨v', w', hr, hown, hb, hs⟩ := run_appP (W0 := w0) w0.heap.size u6 (l1 : List P11).length (l1) A2 n2 c2 l2 HO.out (H2.out.below HB.out) hq HB.out HB.out.size 24
          have HO2 : Hid (w'.ownsRow w0.heap.size 30 11 v' ((l1 : List P11) ++ l2).length (((l1 : List P11) ++ l2).flatMap P11.cells)) := by show World.ownsRow _ _ _ _ _ _ _; rw [List.length_append, L2.out]; exact hown
          have HB2 := Lib.hid hb
          obtain ⟨q0, q1, q2⟩ := KC.out wr HB.out
          clear hown hb hs hq HO
          go_wp2_with (at_builtin; refine Lib.wpList_append_run _ rfl _ _ _ _ rfl _ _ rfl rfl _ _ hr ?_)
          exact ⟨⟨2, _, by omega, rfl, fun h => by omega, fun h => by omega, fun _ => rfl, fun h => by omega, HO2, HB2⟩, by simp [intOf]⟩
        · have e0 := s2.out rfl
          rw [e0] at HO
          clear s0 s1 s2 s3 e0 done
          have hq : (l1 ++ l2 : List P11).length + n3 ≤ 4294967296 := by have h1 := HN.out; have h2 := L1.out; have h3 := L2.out; have h4 := L3.out; (try rw [List.length_append]); (try rw [List.length_nil]); omega
          obtain ⟨v', w', hr, hown, hb, hs⟩ := run_appP (W0 := w0) w0.heap.size u6 (l1 ++ l2 : List P11).length (l1 ++ l2) A3 n3 c3 l3 HO.out (H3.out.below HB.out) hq HB.out HB.out.size 24
          have HO2 : Hid (w'.ownsRow w0.heap.size 30 11 v' ((l1 ++ l2 : List P11) ++ l3).length (((l1 ++ l2 : List P11) ++ l3).flatMap P11.cells)) := by show World.ownsRow _ _ _ _ _ _ _; rw [List.length_append, L3.out]; exact hown
          have HB2 := Lib.hid hb
          obtain ⟨q0, q1, q2⟩ := KC.out wr HB.out
          clear hown hb hs hq HO
          go_wp2_with (at_builtin; refine Lib.wpList_append_run _ rfl _ _ _ _ rfl _ _ rfl rfl _ _ hr ?_)
          exact ⟨⟨3, _, by omega, rfl, fun h => by omega, fun h => by omega, fun h => by omega, fun _ => rfl, HO2, HB2⟩, by simp [intOf]⟩
        · have e0 := s3.out rfl
          rw [e0] at HO
          clear s0 s1 s2 s3 e0
          rw [HLL.out] at HO
          obtain ⟨A', c', rfl, hrd⟩ := RdG.own_ p11len (by omega) HO.out
          have HRD := Lib.hid hrd
          have HLT : Hid (∀ a, A' = some a → w0.heap.size ≤ a.block) := fun a ha => (HO.out.lt a.block (by rw [ha]; rfl)).1
          clear hrd HO
          go_wp2_with fail
          go_ret
          exact ⟨A', c', rfl, HRD.out, HB.out, HLT.out⟩
end Go.Proofs.Ytomdbjmbkfdcmaa

