/- Layer 5: the document's answer: Upto, Right, Equal, Total; how many places. -/
import Derived.Test.YtomdbjmbkfdcmaaMbVecAll
namespace Go.Proofs.Ytomdbjmbkfdcmaa
set_option maxRecDepth 100000
open Go.RowKit

set_option maxHeartbeats 1600000 in
theorem refUpto_any (A B : Option Addr) (n m c d : Nat) (a b : List Int) (w : World) (ha : Rd w A n c (vals .i64 a)) (hb : Rd w B m d (vals .i64 b)) (hn : n ≤ 4294967296) (hm : m ≤ 4294967296) :
    Calls Try.prog 27 #[.slice A n c, .slice B m d] w fun e w' => e = .returned (.bool (uptoV a b)) ∧ w' = w := by
  have hle := ha.le; have hle2 := hb.le
  have hla : a.length = n := by simpa using ha.len
  have hlb : b.length = m := by simpa using hb.len
  obtain ⟨r, hr⟩ : ∃ r, Hid (uptoV a b = r) := ⟨_, rfl⟩
  obtain ⟨N, hN⟩ : ∃ N, Hid (max n m = N) := ⟨_, rfl⟩
  have hNl : N ≤ 4294967296 := by have := hN.out; omega
  have hrN : Hid (((List.range N).all fun j => decide (ofN a j ≤ ofN b j)) = r) := by show _ = _; rw [← hr.out, uptoV, allV, hla, hlb, hN.out]
  have HA := Lib.hid ha; have HB := Lib.hid hb
  rw [hr.out]
  have PL := Lib.hid (fun W => refLong_any A B n m c d W)
  rw [hN.out] at PL
  have PA := Lib.hid (fun k W (hW : W = w) => refOf_any A n c a k W (hW ▸ HA.out))
  have PB := Lib.hid (fun k W (hW : W = w) => refOf_any B m d b k W (hW ▸ HB.out))
  clear ha hb hla hlb hr hn hm
  go_enter Try.func27, Try.ntmps27
  go_wp2_with fail
  go_loopw [5] (fun v wr => ∃ k : Nat, v = .int .i64 ((k : Int) + 1) ∧ k ≤ N ∧ Hid (((List.range k).all fun j => decide (ofN a j ≤ ofN b j)) = true) ∧ wr = w) (fun v _ => N + 1 - (intOf v).toNat)
  case atStart => exact ⟨0, rfl, Nat.zero_le _, by show _ = _; simp, by trivial⟩
  case round =>
    obtain ⟨k, rfl, hk, hE, hw⟩ := hrel
    subst hw
    have q1 : IntKind.i64.wrap ((k : Int) + 1) = (k : Int) + 1 := wrap_is (by omega)
    go_wp2_with fail
    refine (PL.out _).mono ?_
    rintro e w1 ⟨rfl, rfl⟩
    by_cases hlt : k < N
    · have hlz : (k : Int) + 1 ≤ (N : Int) := by omega
      have hlz2 : (k : Int) < (N : Int) := by omega
      have PX := Lib.hid (fun W (hW : W = _) => PA.out ((k : Int) + 1) W hW)
      have PY := Lib.hid (fun W (hW : W = _) => PB.out ((k : Int) + 1) W hW)
      rw [ofV_nat] at PX PY
      generalize hx : ofN a k = x at PX
      generalize hy : ofN b k = y at PY
      obtain ⟨s, hs, ht⟩ : ∃ s, decide (y < x) = !s ∧ Hid (decide (ofN a k ≤ ofN b k) = s) := ⟨decide (x ≤ y), by by_cases h : x ≤ y <;> simp [h] <;> omega, by show _ = _; rw [hx, hy]⟩
      clear hx hy
      go_wp2_with fail
      refine (PX.out _ rfl).mono ?_
      rintro e w1 ⟨rfl, rfl⟩
      go_wp2_with fail
      refine (PY.out _ rfl).mono ?_
      rintro e w2 ⟨rfl, rfl⟩
      cases s with
      | true =>
        have HE := Lib.hid (allV_step (p := fun x y => decide (x ≤ y)) hE.out ht.out)
        simp only [Bool.not_true] at hs
        go_wp2
        exact ⟨⟨k + 1, by go_num, by omega, HE, by trivial⟩, by simp [intOf]; omega⟩
      | false =>
        have HE := Lib.hid (allV_no (p := fun x y => decide (x ≤ y)) hlt ht.out)
        simp only [Bool.not_false] at hs
        go_wp2
        go_ret
        exact ⟨ret_bool (by rw [← hrN.out, ← HE.out]), rfl⟩
    · have hlz : ¬ (k : Int) + 1 ≤ (N : Int) := by omega
      have hlz2 : ¬ (k : Int) < (N : Int) := by omega
      obtain rfl : k = N := by omega
      go_wp2
      go_ret
      exact ⟨ret_bool (by rw [← hrN.out, hE.out]), rfl⟩

theorem okN_iff (x : Int) : okN x = true ↔ 0 ≤ x ∧ x ≤ 1048576 := by simp [okN]
theorem okN_no {x : Int} (h : x < 0 ∨ 1048576 < x) : okN x = false := by
  cases he : okN x with
  | false => rfl
  | true => rw [okN_iff] at he; omega
theorem take_all {l : List Int} {k : Nat} {x : Int} (h : (l.take k).all okN = true) (hx : l[k]? = some x) (ho : okN x = true) : (l.take (k + 1)).all okN = true := by
  rw [List.take_add_one, hx, List.all_append, h]; simp [ho]
theorem take_no {l : List Int} {k : Nat} {x : Int} (hx : l[k]? = some x) (ho : okN x = false) : rightV l = false := by
  unfold rightV
  rw [show l.all okN = false from List.all_eq_false.2 ⟨x, List.mem_of_getElem? hx, by rw [ho]; simp⟩, Bool.and_false]

/-- a sum of what may be is no greater than so many times what may be -/
theorem total_take (l : List Int) (k : Nat) {x : Int} (hx : l[k]? = some x) : totalV (l.take (k + 1)) = totalV (l.take k) + x := by
  unfold totalV
  rw [List.take_add_one, hx, List.foldl_append]; rfl
theorem total_le {l : List Int} (h : l.all okN = true) : ∀ k, 0 ≤ totalV (l.take k) ∧ totalV (l.take k) ≤ (min k l.length : Nat) * 1048576
  | 0 => by simp [totalV]
  | k + 1 => by
    obtain ⟨h1, h2⟩ := total_le h k
    by_cases hk : k < l.length
    · have hx := List.getElem?_eq_getElem hk
      have ho := (okN_iff _).1 (List.all_eq_true.1 h _ (List.getElem_mem hk))
      rw [total_take l k hx]
      rw [show min (k + 1) l.length = min k l.length + 1 by omega]
      omega
    · rw [List.take_of_length_le (by omega)] at h1 h2 ⊢
      rw [show min (k + 1) l.length = min k l.length by omega]
      exact ⟨h1, h2⟩

end Go.Proofs.Ytomdbjmbkfdcmaa

