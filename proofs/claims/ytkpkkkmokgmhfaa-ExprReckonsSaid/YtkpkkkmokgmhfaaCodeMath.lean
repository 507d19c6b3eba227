/- The plain mathematics of numbers as bytes: groups of seven bits, the lowest first, put and got. No program. -/
import Derived.WalkKit
namespace Go.Proofs.Ytkpkkkmokgmhfaa
set_option maxRecDepth 100000

/-- the groups of u, at most f of them -/
def putF : Nat → Int → List Int
  | 0, _ => []
  | f + 1, u => if u < 128 then [u] else (u % 128 + 128) :: putF f (u / 128)

/-- what is got of bytes, i of them being read -/
def getF : List Int → Nat → Int → Option (Int × Nat)
  | [], _, _ => none
  | x :: xs, i, acc =>
    if i = 9 ∧ 1 < x then none else if 0 < i ∧ x = 0 then none else
    if x < 128 then some (acc + x * 128 ^ i, i + 1) else getF xs (i + 1) (acc + (x - 128) * 128 ^ i)

/-- a number turned: 2n, or -2n-1 -/
def turnZ (n : Int) : Int := if n < 0 then -2 * n - 1 else 2 * n
/-- turned back -/
def backZ (u : Int) : Int := if u % 2 = 1 then -(u / 2) - 1 else u / 2

theorem back_turn (n : Int) : backZ (turnZ n) = n := by
  unfold backZ turnZ
  by_cases h : n < 0 <;> simp [h] <;> split <;> omega
theorem turn_back (u : Int) (h : 0 ≤ u) : turnZ (backZ u) = u := by
  unfold backZ turnZ
  by_cases h1 : u % 2 = 1 <;> simp [h1] <;> split <;> omega
theorem turn_rng (n : Int) (h1 : -9223372036854775808 ≤ n) (h2 : n ≤ 9223372036854775807) : 0 ≤ turnZ n ∧ turnZ n ≤ 18446744073709551615 := by
  unfold turnZ; split <;> omega
theorem back_rng (u : Int) (h1 : 0 ≤ u) (h2 : u ≤ 18446744073709551615) : -9223372036854775808 ≤ backZ u ∧ backZ u ≤ 9223372036854775807 := by
  unfold backZ; split <;> omega
theorem turn_inj {m n : Int} (h : turnZ m = turnZ n) : m = n := by rw [← back_turn m, h, back_turn]

theorem pow_pos128 (f : Nat) : (0 : Int) < 128 ^ f := Int.pow_pos (by omega)

theorem putF_lt {f : Nat} {u : Int} (h : u < 128) : putF (f + 1) u = [u] := by simp [putF, h]
theorem putF_ge {f : Nat} {u : Int} (h : 128 ≤ u) : putF (f + 1) u = (u % 128 + 128) :: putF f (u / 128) := by simp [putF, Int.not_lt.2 h]
theorem putF_len (f : Nat) (u : Int) : (putF f u).length ≤ f := by
  induction f generalizing u with
  | zero => simp [putF]
  | succ f ih => unfold putF; split <;> simp; exact ih _
theorem putF_pos (f : Nat) (u : Int) : 0 < (putF (f + 1) u).length := by unfold putF; split <;> simp
theorem putF_bytes (f : Nat) (u : Int) (h : 0 ≤ u) : ∀ x ∈ putF f u, 0 ≤ x ∧ x ≤ 255 := by
  induction f generalizing u with
  | zero => simp [putF]
  | succ f ih =>
    unfold putF
    split
    · intro x hx; simp at hx; omega
    · intro x hx
      rcases List.mem_cons.1 hx with rfl | hx
      · omega
      · exact ih _ (by omega) x hx

theorem get_put (f : Nat) : ∀ (i : Nat) (acc v : Int) (rest : List Int), i + f = 9 → 0 ≤ v → v < 2 * 128 ^ f → (0 < i → v ≠ 0) →
    getF (putF (f + 1) v ++ rest) i acc = some (acc + v * 128 ^ i, i + (putF (f + 1) v).length) := by
  induction f with
  | zero =>
    intro i acc v rest hi h0 h1 h2
    simp only [Int.pow_zero] at h1
    rw [putF_lt (by omega)]
    simp only [List.cons_append, List.nil_append, getF]
    rw [if_neg (by omega), if_neg (fun h => h2 h.1 h.2), if_pos (by omega)]
    rfl
  | succ f ih =>
    intro i acc v rest hi h0 h1 h2
    by_cases hv : v < 128
    · rw [putF_lt hv]
      simp only [List.cons_append, List.nil_append, getF]
      rw [if_neg (by omega), if_neg (fun h => h2 h.1 h.2), if_pos hv]
      rfl
    · rw [putF_ge (by omega)]
      simp only [List.cons_append, getF]
      rw [if_neg (by omega), if_neg (by omega), if_neg (by omega)]
      have hp : (128 : Int) ^ (f + 1) = 128 ^ f * 128 := Int.pow_succ _ _
      rw [ih (i + 1) _ (v / 128) rest (by omega) (by omega) (by omega) (by omega)]
      have hq : (128 : Int) ^ (i + 1) = 128 ^ i * 128 := Int.pow_succ _ _
      have e : acc + (v % 128 + 128 - 128) * 128 ^ i + v / 128 * 128 ^ (i + 1) = acc + v * 128 ^ i := by
        rw [hq, Int.add_sub_cancel, Int.add_assoc]
        congr 1
        have : v / 128 * (128 ^ i * 128) = (v / 128 * 128) * 128 ^ i := by
          rw [Int.mul_comm (128 ^ i) 128, ← Int.mul_assoc]
        rw [this, ← Int.add_mul]
        congr 1
        omega
      rw [e]
      simp only [List.length_cons]
      congr 2
      omega

theorem put_get (l : List Int) : ∀ (f i : Nat) (acc u : Int) (k : Nat), i + f = 9 → (∀ x ∈ l, 0 ≤ x ∧ x ≤ 255) → getF l i acc = some (u, k) →
    ∃ v, u = acc + v * 128 ^ i ∧ 0 ≤ v ∧ v < 2 * 128 ^ f ∧ (0 < i → v ≠ 0) ∧ l.take (k - i) = putF (f + 1) v ∧ i < k ∧ k ≤ i + l.length := by
  induction l with
  | nil => intro f i acc u k _ _ h; simp [getF] at h
  | cons x xs ih =>
    intro f i acc u k hi hb h
    have hx := hb x (by simp)
    unfold getF at h
    by_cases c1 : i = 9 ∧ 1 < x
    · rw [if_pos c1] at h; cases h
    rw [if_neg c1] at h
    by_cases c2 : 0 < i ∧ x = 0
    · rw [if_pos c2] at h; cases h
    rw [if_neg c2] at h
    have hp := pow_pos128 f
    by_cases c3 : x < 128
    · rw [if_pos c3] at h
      simp only [Option.some.injEq, Prod.mk.injEq] at h
      obtain ⟨rfl, rfl⟩ := h
      refine ⟨x, rfl, hx.1, ?_, fun h0 h1 => c2 ⟨h0, h1⟩, ?_, by omega, by simp⟩
      · cases f with
        | zero => simp; omega
        | succ f =>
          have hp' := pow_pos128 f
          rw [Int.pow_succ]; omega
      · rw [putF_lt c3, Nat.add_sub_cancel_left]; rfl
    · rw [if_neg c3] at h
      cases f with
      | zero => omega
      | succ f =>
        obtain ⟨v, hu, h0, h1, h2, h3, h4, h5⟩ := ih f (i + 1) _ u k (by omega) (fun y hy => hb y (by simp [hy])) h
        have hv : v ≠ 0 := h2 (by omega)
        have hpw : (128 : Int) ^ (f + 1) = 128 ^ f * 128 := Int.pow_succ _ _
        refine ⟨x - 128 + 128 * v, ?_, by omega, by omega, by omega, ?_, by omega, by simp; omega⟩
        · rw [hu, Int.pow_succ, Int.add_assoc]
          congr 1
          rw [Int.add_mul]
          congr 1
          rw [Int.mul_comm 128 v, Int.mul_assoc, Int.mul_comm (128 ^ i) 128]
        · rw [putF_ge (by omega)]
          have e1 : (x - 128 + 128 * v) % 128 + 128 = x := by omega
          have e2 : (x - 128 + 128 * v) / 128 = v := by omega
          rw [e1, e2, ← h3, show k - i = (k - (i + 1)) + 1 from by omega]
          rfl

/-- the bytes of a number -/
def putZ (n : Int) : List Int := putF 10 (turnZ n)
/-- the number with which bytes begin, and how many they are -/
def getZ (l : List Int) : Option (Int × Nat) := (getF l 0 0).map fun p => (backZ p.1, p.2)

def inI (n : Int) : Prop := -9223372036854775808 ≤ n ∧ n ≤ 9223372036854775807

theorem getZ_put (n : Int) (hn : inI n) (rest : List Int) : getZ (putZ n ++ rest) = some (n, (putZ n).length) := by
  obtain ⟨h1, h2⟩ := turn_rng n hn.1 hn.2
  have h := get_put 9 0 0 (turnZ n) rest rfl h1 (by simp only [show (128 : Int) ^ 9 = 9223372036854775808 from by decide]; omega) (by omega)
  simp only [getZ, putZ, h, Option.map_some, Int.pow_zero, Int.mul_one, Int.zero_add, back_turn, Nat.zero_add]
theorem getZ_some {l : List Int} {n : Int} {k : Nat} (hb : ∀ x ∈ l, 0 ≤ x ∧ x ≤ 255) (h : getZ l = some (n, k)) :
    inI n ∧ l.take k = putZ n ∧ k = (putZ n).length ∧ 0 < k ∧ k ≤ l.length := by
  simp only [getZ, Option.map_eq_some_iff, Prod.mk.injEq] at h
  obtain ⟨⟨u, k'⟩, hg, rfl, rfl⟩ := h
  obtain ⟨v, hu, h0, h1, _, h3, h4, h5⟩ := put_get l 9 0 0 u k' rfl hb hg
  simp only [Int.pow_zero, Int.mul_one, Int.zero_add] at hu
  subst hu
  simp only [show (128 : Int) ^ 9 = 9223372036854775808 from by decide] at h1
  have e : l.take k' = putZ (backZ u) := by unfold putZ; rw [turn_back u h0]; simpa using h3
  refine ⟨back_rng u h0 (by omega), e, ?_, h4, by omega⟩
  rw [← e, List.length_take]
  omega
theorem putZ_len (n : Int) : 0 < (putZ n).length ∧ (putZ n).length ≤ 10 := ⟨putF_pos _ _, putF_len _ _⟩
theorem putZ_bytes (n : Int) (hn : inI n) : ∀ x ∈ putZ n, 0 ≤ x ∧ x ≤ 255 := putF_bytes _ _ (turn_rng n hn.1 hn.2).1
/-- nothing is got of a shorter beginning -/
theorem getZ_short {l : List Int} {n : Int} {k j : Nat} (hb : ∀ x ∈ l, 0 ≤ x ∧ x ≤ 255) (h : getZ l = some (n, k)) (hj : j < k) : getZ (l.take j) = none := by
  cases h' : getZ (l.take j) with
  | none => rfl
  | some p =>
    exfalso
    obtain ⟨m, i⟩ := p
    obtain ⟨hm, e1, e2, _, e4⟩ := getZ_some (fun x hx => hb x (List.mem_of_mem_take hx)) h'
    have hi : i ≤ j := by rw [List.length_take] at e4; omega
    have e5 : l.take i = putZ m := by rw [← e1, List.take_take, Nat.min_eq_left hi]
    have h6 : getZ l = some (m, (putZ m).length) := by
      have := getZ_put m hm (l.drop i)
      rwa [← e5, List.take_append_drop, e5] at this
    rw [h] at h6
    simp only [Option.some.injEq, Prod.mk.injEq] at h6
    omega
theorem putZ_inj {m n : Int} (hm : inI m) (hn : inI n) (h : putZ m = putZ n) : m = n := by
  have h1 := getZ_put m hm []
  have h2 := getZ_put n hn []
  rw [h, h2] at h1
  simp only [Option.some.injEq, Prod.mk.injEq] at h1
  exact h1.1.symm

/-- the groups, put together -/
def valF : List Int → Int
  | [] => 0
  | x :: xs => x % 128 + 128 * valF xs
theorem valF_nonneg (l : List Int) : 0 ≤ valF l := by
  induction l with
  | nil => simp [valF]
  | cons x xs ih => simp only [valF]; omega
theorem valF_put (f : Nat) : ∀ v : Int, 0 ≤ v → v < 128 ^ (f + 1) → valF (putF (f + 1) v) = v := by
  induction f with
  | zero =>
    intro v h0 h1
    rw [putF_lt (by simpa using h1)]
    simp only [valF]
    simp at h1
    omega
  | succ f ih =>
    intro v h0 h1
    by_cases h : v < 128
    · rw [putF_lt h]; simp only [valF]; omega
    · rw [putF_ge (by omega)]
      have hp : (128 : Int) ^ (f + 1 + 1) = 128 ^ (f + 1) * 128 := Int.pow_succ _ _
      simp only [valF]
      rw [ih (v / 128) (by omega) (by omega)]
      omega
/-- the last group alone is below 128 -/
theorem putF_at (f : Nat) : ∀ (v : Int) (j : Nat) (x : Int), 0 ≤ v → v < 128 ^ (f + 1) → (putF (f + 1) v)[j]? = some x → (x < 128 ↔ j + 1 = (putF (f + 1) v).length) := by
  induction f with
  | zero =>
    intro v j x h0 h1 hj
    simp at h1
    rw [putF_lt h1] at hj ⊢
    match j, hj with
    | 0, hj => simp at hj; subst hj; simp [h1]
  | succ f ih =>
    intro v j x h0 h1 hj
    by_cases h : v < 128
    · rw [putF_lt h] at hj ⊢
      match j, hj with
      | 0, hj => simp at hj; subst hj; simp [h]
    · rw [putF_ge (by omega)] at hj ⊢
      have hp : (128 : Int) ^ (f + 1 + 1) = 128 ^ (f + 1) * 128 := Int.pow_succ _ _
      have hpos := putF_pos f (v / 128)
      match j, hj with
      | 0, hj => simp at hj; subst hj; simp; constructor
                 · intro h; omega
                 · intro h; rw [h] at hpos; simp at hpos
      | j + 1, hj =>
        rw [List.getElem?_cons_succ] at hj
        have := ih (v / 128) j x (by omega) (by omega) hj
        simp only [List.length_cons]
        omega
theorem putZ_at {n : Int} (hn : inI n) {j : Nat} {x : Int} (h : (putZ n)[j]? = some x) : x < 128 ↔ j + 1 = (putZ n).length := by
  obtain ⟨h1, h2⟩ := turn_rng n hn.1 hn.2
  exact putF_at 9 _ j x h1 (by simp only [show (128 : Int) ^ (9 + 1) = 1180591620717411303424 from by decide]; omega) h
theorem valF_putZ {n : Int} (hn : inI n) : valF (putZ n) = turnZ n := by
  obtain ⟨h1, h2⟩ := turn_rng n hn.1 hn.2
  exact valF_put 9 _ h1 (by simp only [show (128 : Int) ^ (9 + 1) = 1180591620717411303424 from by decide]; omega)
/-- where the number ends that is got -/
theorem getZ_end {l : List Int} (hb : ∀ x ∈ l, 0 ≤ x ∧ x ≤ 255) {n : Int} {k : Nat} (h : getZ l = some (n, k)) : k ≤ 10 ∧ ∃ x, l[k - 1]? = some x ∧ x < 128 ∧ ∀ j y, j < k - 1 → l[j]? = some y → 128 ≤ y := by
  obtain ⟨hn, e1, e2, e3, e4⟩ := getZ_some hb h
  have hl := putZ_len n
  have hx : l[k - 1]? = some (l[k - 1]'(by omega)) := List.getElem?_eq_getElem (by omega)
  have at_ : ∀ j, j < k → (putZ n)[j]? = l[j]? := by
    intro j hj
    rw [← e1, List.getElem?_take, if_pos hj]
  refine ⟨by omega, _, hx, ?_, ?_⟩
  · exact (putZ_at hn ((at_ (k - 1) (by omega)).trans hx)).2 (by omega)
  · intro j y hj hy
    have := putZ_at hn ((at_ j (by omega)).trans hy)
    omega
/-- where all bytes are high, or ten of them, nothing is got -/
theorem getZ_high {l : List Int} (hb : ∀ x ∈ l, 0 ≤ x ∧ x ≤ 255) {m : Nat} (hm : m = 10 ∨ m = l.length) (hh : ∀ j y, j < m → l[j]? = some y → 128 ≤ y) : getZ l = none := by
  cases h : getZ l with
  | none => rfl
  | some p =>
    exfalso
    obtain ⟨n, k⟩ := p
    obtain ⟨_, x, hx, hlt, _⟩ := getZ_end hb h
    obtain ⟨_, _, e2, e3, e4⟩ := getZ_some hb h
    have := putZ_len n
    have := hh (k - 1) x (by omega) hx
    omega
/-- nothing is got, or what the groups up to the first low one are -/
theorem getZ_val {l : List Int} (hb : ∀ x ∈ l, 0 ≤ x ∧ x ≤ 255) {k : Nat} (hk : k < l.length) (hh : ∀ j y, j < k → l[j]? = some y → 128 ≤ y) (hlow : ∀ y, l[k]? = some y → y < 128) :
    getZ l = if putZ (backZ (valF (l.take (k + 1)) % 18446744073709551616)) = l.take (k + 1) then some (backZ (valF (l.take (k + 1)) % 18446744073709551616), k + 1) else none := by
  have hrng := back_rng (valF (l.take (k + 1)) % 18446744073709551616) (by omega) (by omega)
  by_cases he : putZ (backZ (valF (l.take (k + 1)) % 18446744073709551616)) = l.take (k + 1)
  · rw [if_pos he]
    have h := getZ_put _ hrng (l.drop (k + 1))
    rw [he, List.take_append_drop, List.length_take] at h
    rw [h, Nat.min_eq_left (by omega)]
  · rw [if_neg he]
    cases h : getZ l with
    | none => rfl
    | some p =>
      exfalso
      obtain ⟨n, j⟩ := p
      obtain ⟨_, x, hx, hlt, hhi⟩ := getZ_end hb h
      obtain ⟨hn, e1, e2, e3, e4⟩ := getZ_some hb h
      have hjk : j = k + 1 := by
        rcases Nat.lt_trichotomy (j - 1) k with h1 | h1 | h1
        · have := hh (j - 1) x h1 hx; omega
        · omega
        · have hy : l[k]? = some (l[k]'hk) := List.getElem?_eq_getElem hk
          have h2 := hhi k _ h1 hy
          have h3 := hlow _ hy
          omega
      subst hjk
      apply he
      have ht := turn_rng n hn.1 hn.2
      rw [e1, valF_putZ hn, Int.emod_eq_of_lt (by omega) (by omega), back_turn]
end Go.Proofs.Ytkpkkkmokgmhfaa
