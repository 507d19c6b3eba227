/- More of the plain mathematics: texts and rows, got behind one another and cut short. -/
import Derived.Test.YtbajdehcomheaaaCodeFlat
namespace Go.Proofs.Ytbajdehcomheaaa

theorem textOf_sbytes (s : ByteArray) : textOf (sbytes s) = s := sbytes_inj (sbytes_textOf (sbytes_rng s))

theorem nat_inI {n : Nat} (h : n ≤ 4294967296) : inI (n : Int) := ⟨by omega, by omega⟩

theorem textZ_put {t l : List Int} (ht : t.length ≤ 4294967296) : textZ ((putZ (t.length : Int) ++ t) ++ l) = some (t, (putZ (t.length : Int) ++ t).length) := by
  have h := getZ_put (t.length : Int) (nat_inI ht) (t ++ l)
  rw [List.append_assoc, textZ, h]
  simp only [Int.toNat_natCast]
  rw [if_pos ⟨by omega, by simp only [List.length_append]; omega⟩, List.drop_left, List.take_left, List.length_append]

theorem take_app {p t : List Int} {j : Nat} (h : p.length ≤ j) : (p ++ t).take j = p ++ t.take (j - p.length) := by
  rw [List.take_append, List.take_of_length_le h]

theorem textZ_short {t : List Int} (ht : t.length ≤ 4294967296) (hb : ∀ x ∈ t, 0 ≤ x ∧ x ≤ 255) {j : Nat} (hj : j < (putZ (t.length : Int) ++ t).length) : textZ ((putZ (t.length : Int) ++ t).take j) = none := by
  have hp := nat_inI ht
  by_cases h : j < (putZ (t.length : Int)).length
  · have h1 := getZ_short (l := putZ (t.length : Int) ++ t) (fun x hx => (List.mem_append.1 hx).elim (putZ_bytes _ hp x) (hb x)) (getZ_put _ hp t) h
    rw [textZ, h1]
  · rw [take_app (by omega), textZ, getZ_put _ hp]
    simp only [Int.toNat_natCast]
    rw [if_neg]
    simp only [List.length_append, List.length_take] at hj ⊢
    omega

theorem numsI_put (l : List Int) : ∀ (acc p rest : List Int), (∀ x ∈ l, inI x) → numsI l.length acc p.length ((p ++ catZ l) ++ rest) = some (acc ++ l, (p ++ catZ l).length) := by
  induction l with
  | nil => intro acc p rest _; simp [numsI, catZ]
  | cons x xs ih =>
    intro acc p rest hin
    have h := getZ_put x (hin x (by simp)) (catZ xs ++ rest)
    have e : (p ++ catZ (x :: xs)) ++ rest = p ++ (putZ x ++ (catZ xs ++ rest)) := by simp [catZ, List.append_assoc]
    have e2 : (p ++ catZ (x :: xs)) ++ rest = ((p ++ putZ x) ++ catZ xs) ++ rest := by simp [catZ, List.append_assoc]
    rw [List.length_cons, numsI]
    conv => lhs; rw [e, List.drop_left, h]
    simp only
    rw [← e, e2, ← List.length_append, ih (acc ++ [x]) (p ++ putZ x) rest (fun y hy => hin y (by simp [hy]))]
    simp [catZ, List.append_assoc]

theorem numsI_short (l : List Int) : ∀ (acc p : List Int) (j : Nat), (∀ x ∈ l, inI x) → p.length ≤ j → j < (p ++ catZ l).length → numsI l.length acc p.length ((p ++ catZ l).take j) = none := by
  induction l with
  | nil => intro acc p j _ h1 h2; simp [catZ] at h2; omega
  | cons x xs ih =>
    intro acc p j hin h1 h2
    have hx := hin x (by simp)
    have e : p ++ catZ (x :: xs) = p ++ (putZ x ++ catZ xs) := by simp [catZ]
    have e2 : p ++ catZ (x :: xs) = (p ++ putZ x) ++ catZ xs := by simp [catZ, List.append_assoc]
    have hbx : ∀ y ∈ catZ xs, 0 ≤ y ∧ y ≤ 255 := by
      intro y hy
      simp only [catZ, List.mem_flatMap] at hy
      obtain ⟨z, hz, hy⟩ := hy
      exact putZ_bytes z (hin z (by simp [hz])) y hy
    rw [List.length_cons, numsI]
    by_cases h : j < p.length + (putZ x).length
    · have h3 := getZ_short (l := putZ x ++ catZ xs) (fun y hy => (List.mem_append.1 hy).elim (putZ_bytes x hx y) (hbx y)) (getZ_put x hx (catZ xs)) (show j - p.length < _ by omega)
      rw [e, take_app h1, List.drop_left, h3]
    · have h3 := getZ_put x hx ((catZ xs).take (j - p.length - (putZ x).length))
      have e3 : (p ++ catZ (x :: xs)).take j = p ++ (putZ x ++ (catZ xs).take (j - p.length - (putZ x).length)) := by
        rw [e, take_app h1, take_app (by omega)]
      have e4 : (p ++ catZ (x :: xs)).take j = ((p ++ putZ x) ++ catZ xs).take j := by rw [e2]
      conv => lhs; rw [e3, List.drop_left, h3]
      simp only
      rw [← e3, e4, ← List.length_append]
      exact ih (acc ++ [x]) (p ++ putZ x) j (fun y hy => hin y (by simp [hy])) (by rw [List.length_append]; omega) (by rw [← e2]; exact h2)

theorem numsZ_put {l rest : List Int} (hl : l.length ≤ 4294967296) (hin : ∀ x ∈ l, inI x) : numsZ ((putZ (l.length : Int) ++ catZ l) ++ rest) = some (l, (putZ (l.length : Int) ++ catZ l).length) := by
  have h := getZ_put (l.length : Int) (nat_inI hl) (catZ l ++ rest)
  have h2 := numsI_put l [] (putZ (l.length : Int)) rest hin
  rw [List.append_assoc] at h2 ⊢
  rw [numsZ, h]
  simp only [Int.toNat_natCast]
  rw [if_pos (by omega), h2]; rfl
theorem numsZ_short {l : List Int} (hl : l.length ≤ 4294967296) (hin : ∀ x ∈ l, inI x) {j : Nat} (hj : j < (putZ (l.length : Int) ++ catZ l).length) : numsZ ((putZ (l.length : Int) ++ catZ l).take j) = none := by
  have hp := nat_inI hl
  have hbx : ∀ y ∈ catZ l, 0 ≤ y ∧ y ≤ 255 := by
    intro y hy
    simp only [catZ, List.mem_flatMap] at hy
    obtain ⟨z, hz, hy⟩ := hy
    exact putZ_bytes z (hin z hz) y hy
  by_cases h : j < (putZ (l.length : Int)).length
  · have h1 := getZ_short (l := putZ (l.length : Int) ++ catZ l) (fun x hx => (List.mem_append.1 hx).elim (putZ_bytes _ hp x) (hbx x)) (getZ_put _ hp (catZ l)) h
    rw [numsZ, h1]
  · have h2 := numsI_short l [] (putZ (l.length : Int)) j hin (by omega) hj
    have h3 := getZ_put (l.length : Int) hp ((catZ l).take (j - (putZ (l.length : Int)).length))
    rw [← take_app (by omega)] at h3
    rw [numsZ, h3]
    simp only [Int.toNat_natCast]
    rw [if_pos (by omega), h2]
theorem catZ_bytes {l : List Int} (hin : ∀ x ∈ l, inI x) : ∀ y ∈ catZ l, 0 ≤ y ∧ y ≤ 255 := by
  intro y hy
  simp only [catZ, List.mem_flatMap] at hy
  obtain ⟨z, hz, hy⟩ := hy
  exact putZ_bytes z (hin z hz) y hy
theorem put_bytes {t : List Int} (hb : ∀ x ∈ t, 0 ≤ x ∧ x ≤ 255) {n : Nat} (hn : n ≤ 4294967296) : ∀ x ∈ putZ (n : Int) ++ t, 0 ≤ x ∧ x ≤ 255 :=
  fun x hx => (List.mem_append.1 hx).elim (putZ_bytes _ (nat_inI hn) x) (hb x)

/-- a greater one has no fewer groups -/
theorem putF_mono (f : Nat) : ∀ u v : Int, 0 ≤ u → u ≤ v → (putF f u).length ≤ (putF f v).length := by
  induction f with
  | zero => intro u v _ _; simp [putF]
  | succ f ih =>
    intro u v h0 h
    by_cases hv : v < 128
    · rw [putF_lt hv, putF_lt (by omega)]; simp
    · rw [putF_ge (show 128 ≤ v by omega)]
      by_cases hu : u < 128
      · rw [putF_lt hu]; simp
      · rw [putF_ge (by omega)]
        simp only [List.length_cons]
        have := ih (u / 128) (v / 128) (by omega) (by omega)
        omega
theorem putZ_mono {m n : Int} (h : (0 ≤ m ∧ m ≤ n) ∨ (m < 0 ∧ n ≤ m)) : (putZ m).length ≤ (putZ n).length := by
  refine putF_mono 10 _ _ ?_ ?_
  · unfold turnZ; split <;> omega
  · unfold turnZ
    rcases h with h | h
    · rw [if_neg (by omega), if_neg (by omega)]; omega
    · rw [if_pos (by omega), if_pos (by omega)]; omega
end Go.Proofs.Ytbajdehcomheaaa
