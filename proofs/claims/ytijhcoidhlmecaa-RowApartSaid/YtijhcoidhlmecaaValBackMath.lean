/- Layer 2: a value's bytes are got as it, whatever stands behind; unlike values have unlike bytes, none the beginning of the other's. -/
import Derived.Test.YtijhcoidhlmecaaValGetMath
namespace Go.Proofs.Ytijhcoidhlmecaa
set_option maxRecDepth 100000
open Go.RowKit

theorem ofSbytes (s : ByteArray) : textOf (sbytes s) = s := sbytes_inj (sbytes_textOf (sbytes_rng s))

theorem textZ_put2 {t l : List Int} (ht : t.length ≤ 4294967296) : textZ ((putZ (t.length : Int) ++ t) ++ l) = some (t, (putZ (t.length : Int) ++ t).length) := by
  have hg : getZ ((putZ (t.length : Int) ++ t) ++ l) = some ((t.length : Int), (putZ (t.length : Int)).length) := by
    rw [List.append_assoc]; exact getZ_put _ ⟨by omega, by omega⟩ _
  unfold textZ
  rw [hg]
  simp only []
  rw [if_pos ⟨by omega, by simp; omega⟩, List.append_assoc, List.drop_left, Int.toNat_natCast, List.take_left, List.length_append]

theorem val_put_get {k n : Int} {s : ByteArray} (h : rightZ k n s.size = true) (l : List Int) :
    getOk (bytesZ k n s ++ l) = true ∧ hK (bytesZ k n s ++ l) = k ∧ hN (bytesZ k n s ++ l) = n ∧ hS (bytesZ k n s ++ l) = s ∧ 1 + hM (bytesZ k n s ++ l) = (bytesZ k n s).length := by
  have h0 := h
  simp [rightZ] at h
  rcases h with (⟨⟨rfl, rfl⟩, h3⟩ | ⟨⟨⟨rfl, h2⟩, h3⟩, h4⟩) | ⟨⟨rfl, rfl⟩, h3⟩
  · obtain rfl : s = ⟨#[]⟩ := h3
    have e : bytesZ 0 0 ⟨#[]⟩ = [0] := rfl
    rw [e]
    exact ⟨by rw [getOk]; simp [hE, hK, hN, hS, rightZ]; rfl, rfl, rfl, rfl, rfl⟩
  · obtain rfl : s = ⟨#[]⟩ := h4
    have e : bytesZ 1 n ⟨#[]⟩ = 1 :: putZ n := rfl
    have hg := getZ_put n ⟨by omega, by omega⟩ l
    rw [e, List.cons_append]
    have a1 : hN (1 :: (putZ n ++ l)) = n := by simp [hN, hg, vN]
    have a2 : hM (1 :: (putZ n ++ l)) = (putZ n).length := by simp [hM, hg, vM]
    have a3 : hE (1 :: (putZ n ++ l)) = 0 := by simp [hE, hg, vE]
    have a4 : hS (1 :: (putZ n ++ l)) = ⟨#[]⟩ := rfl
    exact ⟨by rw [getOk, a3, a1, a4, show hK (1 :: (putZ n ++ l)) = 1 from rfl, h0]; rfl, rfl, a1, a4, by rw [a2]; simp; omega⟩
  · have e : bytesZ 2 0 s = 2 :: (putZ s.size ++ sbytes s) := rfl
    have hg := textZ_put2 (t := sbytes s) (l := l) (by rw [sbytes_len]; omega)
    rw [sbytes_len] at hg
    rw [e, List.cons_append]
    have a1 : hN (2 :: ((putZ s.size ++ sbytes s) ++ l)) = 0 := rfl
    have a2 : hM (2 :: ((putZ s.size ++ sbytes s) ++ l)) = (putZ s.size ++ sbytes s).length := by simp only [hM]; rw [if_neg (by decide), if_pos trivial, hg]; rfl
    have a3 : hE (2 :: ((putZ s.size ++ sbytes s) ++ l)) = 0 := by simp only [hE]; rw [if_neg (by decide), if_pos trivial, hg]; rfl
    have a4 : hS (2 :: ((putZ s.size ++ sbytes s) ++ l)) = s := by simp only [hS]; rw [if_pos trivial, hg]; exact ofSbytes s
    exact ⟨by rw [getOk, a3, a1, a4, show hK (2 :: ((putZ s.size ++ sbytes s) ++ l)) = 2 from rfl, h0]; rfl, rfl, a1, a4, by rw [a2]; simp; omega⟩

theorem bytes_rng (k n : Int) (s : ByteArray) (hn : inI n) (hs : s.size ≤ 4294967296) : ∀ x ∈ bytesZ k n s, 0 ≤ x ∧ x ≤ 255 := by
  intro x hx
  rw [bytesZ, List.mem_cons] at hx
  rcases hx with rfl | hx
  · omega
  · split at hx
    · exact putZ_bytes n hn x hx
    · split at hx
      · rw [List.mem_append] at hx
        rcases hx with hx | hx
        · exact putZ_bytes _ ⟨by omega, by omega⟩ x hx
        · exact sbytes_rng s x hx
      · simp at hx

theorem bytes_free {k n k' n' : Int} {s s' : ByteArray} (h : rightZ k n s.size = true) (h' : rightZ k' n' s'.size = true) {m : Nat} (hm : m = min (bytesZ k n s).length (bytesZ k' n' s').length)
    (e : (bytesZ k n s).take m = (bytesZ k' n' s').take m) : k = k' ∧ n = n' ∧ s = s' := by
  have key : ∀ {k n k' n' : Int} {s s' : ByteArray}, rightZ k n s.size = true → rightZ k' n' s'.size = true → (bytesZ k n s).length ≤ (bytesZ k' n' s').length → (bytesZ k n s) = (bytesZ k' n' s').take (bytesZ k n s).length → k = k' ∧ n = n' ∧ s = s' := by
    intro k n k' n' s s' h h' hl e
    have a := val_put_get h ((bytesZ k' n' s').drop (bytesZ k n s).length)
    have b := val_put_get h' []
    rw [List.append_nil] at b
    have c : bytesZ k n s ++ (bytesZ k' n' s').drop (bytesZ k n s).length = bytesZ k' n' s' := by
      conv => lhs; arg 1; rw [e]
      exact List.take_append_drop _ _
    rw [c] at a
    exact ⟨a.2.1.symm.trans b.2.1, a.2.2.1.symm.trans b.2.2.1, a.2.2.2.1.symm.trans b.2.2.2.1⟩
  rcases Nat.le_total (bytesZ k n s).length (bytesZ k' n' s').length with hl | hl
  · rw [Nat.min_eq_left hl] at hm
    subst hm
    rw [List.take_length] at e
    exact key h h' hl e
  · rw [Nat.min_eq_right hl] at hm
    subst hm
    rw [List.take_length] at e
    obtain ⟨a, b, c⟩ := key h' h hl e.symm
    exact ⟨a.symm, b.symm, c.symm⟩

theorem textOf_inj {a b : List Int} (ha : ∀ x ∈ a, 0 ≤ x ∧ x ≤ 255) (hb : ∀ x ∈ b, 0 ≤ x ∧ x ≤ 255) (h : textOf a = textOf b) : a = b := by
  rw [← sbytes_textOf ha, ← sbytes_textOf hb, h]

theorem rightZ_n {k n : Int} {m : Nat} (h : rightZ k n m = true) : -9223372036854775808 ≤ n ∧ n ≤ 9223372036854775807 := by
  simp [rightZ] at h
  omega

theorem bytes_len {k n : Int} {s : ByteArray} (h : s.size ≤ 300) : (bytesZ k n s).length ≤ 1000000 := by
  have a := (putZ_len n).2
  have b := (putZ_len s.size).2
  rw [bytesZ]
  split
  · simp; omega
  · split
    · rw [List.length_cons, List.length_append, sbytes_len]; omega
    · simp
end Go.Proofs.Ytijhcoidhlmecaa
