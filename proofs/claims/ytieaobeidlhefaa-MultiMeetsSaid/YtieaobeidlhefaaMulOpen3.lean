/- Layer 7: three vectors that came in, no longer than any machine's memory; Upto of such. -/
import Derived.Test.YtieaobeidlhefaaMbOpen
import Derived.Laws.IdiomArrays
import Derived.SizedLaws
import Derived.Test.YtieaobeidlhefaaVecMake
namespace Go.Proofs.Ytieaobeidlhefaa
set_option maxRecDepth 100000
open Go.ChangeShapes Go.WideShapes Go.ChangeAt Go.RowKit

theorem vec_cellsz {H : Type} {enc : TypeId × Value → H} {W : World} (n : Nat) (cs : List Value) (r) (h : DataW.trod enc Try.prog W 0 (fun _ => true) true n 34 cs = some r) (hw : ∀ x ∈ r.1.weights Try.prog 34, x ≤ reachBytes) : ∃ A m c l, cs = [.slice A m c] ∧ Rd W A m c (vals .i64 l) ∧ (∀ x ∈ l, I64 x) ∧ m ≤ 140737488351232 := by
  obtain ⟨A, m, c, l, e, h1, h2⟩ := vec_cells n cs r h
  refine ⟨A, m, c, l, e, h1, h2, ?_⟩
  rcases Go.Deep.open_slice Try.underlying34 h with ⟨e2, _⟩ | ⟨a, len, cap, q, k, D, Pl, e2, _, _, _, _, hx, _⟩
  · rw [e] at e2
    injection e2 with e2
    injection e2 with _ e3 _
    omega
  · rw [e] at e2
    injection e2 with e2
    injection e2 with _ e3 _
    subst e3
    have hb : Try.prog.bytesOf 3 = 8 := by decide +kernel
    have := hw ((((List.range m).map D).length + ((List.range (q - m)).map fun j => D (m + j)).length) * Try.prog.bytesOf 3) (by rw [hx]; simp [DataW.weights, Try.underlying34])
    rw [hb] at this
    simp only [List.length_map, List.length_range, reachBytes] at this
    omega

theorem open_vec3z {H : Type} {enc : TypeId × Value → H} {W : World} {base : Nat} {v : Value} {d : DataW H} {ps : List MemPlace} (hval : Value.okWide Try.prog W .any base 47 v) (h : DataW.Trod enc Try.prog W 0 (fun _ => true) true 47 v d ps) (hw : ∀ x ∈ d.weights Try.prog 47, x ≤ reachBytes) :
    ∃ A n c l B m d k D p q j, v = .agg #[.slice A n c, .slice B m d, .slice D p q] ∧ Rd W A n c (vals .i64 l) ∧ Rd W B m d (vals .i64 k) ∧ Rd W D p q (vals .i64 j) ∧ n ≤ 140737488351232 ∧ m ≤ 140737488351232 ∧ p ≤ 140737488351232 := by
  obtain ⟨cs, rfl, hsz⟩ := okWide_arr Try.underlying47 hval
  obtain ⟨c0, c1, c2, rfl⟩ : ∃ c0 c1 c2, cs = #[c0, c1, c2] := Go.Joins.array3 (hsz.trans (by kernel_rfl))
  obtain ⟨fuel, hf⟩ := h
  obtain ⟨y0, y1, y2, k, hx, h0, h1, h2⟩ := trod_array3 Try.underlying47 Try.cellsVec hf
  simp only [Prod.mk.injEq] at hx
  have hd := hx.1
  subst hd
  have hw2 : ∀ x, (x ∈ y0.1.weights Try.prog 34 ∨ x ∈ y1.1.weights Try.prog 34 ∨ x ∈ y2.1.weights Try.prog 34) → x ≤ reachBytes := fun x hx2 => hw x (by
    simp only [DataW.weights, Try.underlying47, DataW.weightsAll, List.mem_append]
    rcases hx2 with h | h | h
    · exact .inl h
    · exact .inr (.inl h)
    · exact .inr (.inr (.inl h)))
  obtain ⟨A, n, c, l, e0, r0, w0, z0⟩ := vec_cellsz _ _ _ h0 (fun x hx => hw2 x (.inl hx))
  obtain ⟨B, m', d, k', e1, r1, w1, z1⟩ := vec_cellsz _ _ _ h1 (fun x hx => hw2 x (.inr (.inl hx)))
  obtain ⟨D, p, q, j, e2, r2, w2, z2⟩ := vec_cellsz _ _ _ h2 (fun x hx => hw2 x (.inr (.inr hx)))
  obtain rfl := List.singleton_inj.1 e0
  obtain rfl := List.singleton_inj.1 e1
  obtain rfl := List.singleton_inj.1 e2
  exact ⟨A, n, c, l, B, m', d, k', D, p, q, j, rfl, r0, r1, r2, z0, z1, z2⟩

set_option maxHeartbeats 1600000 in
theorem refUpto_free (A B : Option Addr) (n m c d : Nat) (a b : List Int) (w : World) (ha : Rd w A n c (vals .i64 a)) (hb : Rd w B m d (vals .i64 b)) (hn : n ≤ 140737488351232) (hm : m ≤ 140737488351232) :
    Calls Try.prog 28 #[.slice A n c, .slice B m d] w fun e w' => e = .returned (.bool (uptoV a b)) ∧ w' = w := by
  have hle := ha.le; have hle2 := hb.le
  have hla : a.length = n := by simpa using ha.len
  have hlb : b.length = m := by simpa using hb.len
  obtain ⟨r, hr⟩ : ∃ r, Hid (uptoV a b = r) := ⟨_, rfl⟩
  obtain ⟨N, hN⟩ : ∃ N, Hid (max n m = N) := ⟨_, rfl⟩
  have hNl : N ≤ 140737488351232 := by have := hN.out; omega
  have hrN : Hid (((List.range N).all fun j => decide (ofN a j ≤ ofN b j)) = r) := by show _ = _; rw [← hr.out, uptoV, allV, hla, hlb, hN.out]
  have HA := Lib.hid ha; have HB := Lib.hid hb
  rw [hr.out]
  have PL := Lib.hid (fun W => refLong_any A B n m c d W)
  rw [hN.out] at PL
  have PA := Lib.hid (fun k W (hW : W = w) => refOf_any A n c a k W (hW ▸ HA.out))
  have PB := Lib.hid (fun k W (hW : W = w) => refOf_any B m d b k W (hW ▸ HB.out))
  clear ha hb hla hlb hr
  go_enter Try.func28, Try.ntmps28
  go_wp2_with fail
  go_loopw [5] (fun v wr => ∃ k : Nat, v = .int .i64 ((k : Int) + 1) ∧ k ≤ N ∧ Hid (((List.range k).all fun j => decide (ofN a j ≤ ofN b j)) = true) ∧ wr = w) (fun v _ => N + 1 - (intOf v).toNat)
  case atStart => exact ⟨0, rfl, Nat.zero_le _, by show _ = _; simp, by trivial⟩
  case round =>
    obtain ⟨k, rfl, hk, hE, hw⟩ := hrel
    subst hw
    have q1 : IntKind.i64.wrap ((k : Int) + 1) = (k : Int) + 1 := wrap_is (by omega)
    go_wp2_with fail
    refine (PL.out _).mono ?_
    rintro e w1 ⟨rfl, rfl⟩
    by_cases hlt : k < N
    · have hlz : (k : Int) + 1 ≤ (N : Int) := by omega
      have hlz2 : (k : Int) < (N : Int) := by omega
      have PX := Lib.hid (fun W (hW : W = _) => PA.out ((k : Int) + 1) W hW)
      have PY := Lib.hid (fun W (hW : W = _) => PB.out ((k : Int) + 1) W hW)
      rw [ofV_nat] at PX PY
      generalize hx : ofN a k = x at PX
      generalize hy : ofN b k = y at PY
      obtain ⟨s, hs, ht⟩ : ∃ s, decide (y < x) = !s ∧ Hid (decide (ofN a k ≤ ofN b k) = s) := ⟨decide (x ≤ y), by by_cases h : x ≤ y <;> simp [h] <;> omega, by show _ = _; rw [hx, hy]⟩
      clear hx hy
      go_wp2_with fail
      refine (PX.out _ rfl).mono ?_
      rintro e w1 ⟨rfl, rfl⟩
      go_wp2_with fail
      refine (PY.out _ rfl).mono ?_
      rintro e w2 ⟨rfl, rfl⟩
      cases s with
      | true =>
        have HE := Lib.hid (allV_step (p := fun x y => decide (x ≤ y)) hE.out ht.out)
        simp only [Bool.not_true] at hs
        go_wp2
        exact ⟨⟨k + 1, by go_num, by omega, HE, by trivial⟩, by simp [intOf]; omega⟩
      | false =>
        have HE := Lib.hid (allV_no (p := fun x y => decide (x ≤ y)) hlt ht.out)
        simp only [Bool.not_false] at hs
        go_wp2
        go_ret
        exact ⟨ret_bool (by rw [← hrN.out, ← HE.out]), rfl⟩
    · have hlz : ¬ (k : Int) + 1 ≤ (N : Int) := by omega
      have hlz2 : ¬ (k : Int) < (N : Int) := by omega
      obtain rfl : k = N := by omega
      go_wp2
      go_ret
      exact ⟨ret_bool (by rw [← hrN.out, hE.out]), rfl⟩

end Go.Proofs.Ytieaobeidlhefaa
