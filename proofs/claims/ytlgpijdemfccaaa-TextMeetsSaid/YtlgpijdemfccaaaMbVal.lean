/- Several texts laid together: CodeMath, ValMath, ValPlain, ValEq. -/
import Derived.WalkKit
import Derived.Lib.Replace
import Derived.Lib.CountLaws
import Derived.Lib.ItoaNum
import Derived.Lib.AtoiAll
import Derived.Test.YtlgpijdemfccaaaRows
import Derived.Test.YtlgpijdemfccaaaMbBase
import Derived.Sort.Walk0
import Derived.BigQuiet
import Derived.Deep.RegionWith
import Derived.Outline
import Derived.Deep.DeepCutAuto
import Derived.Deep.CutBlock
namespace Go.Proofs.Ytlgpijdemfccaaa
set_option maxRecDepth 100000

/-- the groups of u, at most f of them -/
def putF : Nat → Int → List Int
  | 0, _ => []
  | f + 1, u => if u < 128 then [u] else (u % 128 + 128) :: putF f (u / 128)

/-- what is got of bytes, i of them being read -/
def getF : List Int → Nat → Int → Option (Int × Nat)
  | [], _, _ => none
  | x :: xs, i, acc =>
    if i = 9 ∧ 1 < x then none else if 0 < i ∧ x = 0 then none else
    if x < 128 then some (acc + x * 128 ^ i, i + 1) else getF xs (i + 1) (acc + (x - 128) * 128 ^ i)

/-- a number turned: 2n, or -2n-1 -/
def turnZ (n : Int) : Int := if n < 0 then -2 * n - 1 else 2 * n
/-- turned back -/
def backZ (u : Int) : Int := if u % 2 = 1 then -(u / 2) - 1 else u / 2

theorem back_turn (n : Int) : backZ (turnZ n) = n := by
  unfold backZ turnZ
  by_cases h : n < 0 <;> simp [h] <;> split <;> omega
theorem turn_back (u : Int) (h : 0 ≤ u) : turnZ (backZ u) = u := by
  unfold backZ turnZ
  by_cases h1 : u % 2 = 1 <;> simp [h1] <;> split <;> omega
theorem turn_rng (n : Int) (h1 : -9223372036854775808 ≤ n) (h2 : n ≤ 9223372036854775807) : 0 ≤ turnZ n ∧ turnZ n ≤ 18446744073709551615 := by
  unfold turnZ; split <;> omega
theorem back_rng (u : Int) (h1 : 0 ≤ u) (h2 : u ≤ 18446744073709551615) : -9223372036854775808 ≤ backZ u ∧ backZ u ≤ 9223372036854775807 := by
  unfold backZ; split <;> omega
theorem turn_inj {m n : Int} (h : turnZ m = turnZ n) : m = n := by rw [← back_turn m, h, back_turn]

theorem pow_pos128 (f : Nat) : (0 : Int) < 128 ^ f := Int.pow_pos (by omega)

theorem putF_lt {f : Nat} {u : Int} (h : u < 128) : putF (f + 1) u = [u] := by simp [putF, h]
theorem putF_ge {f : Nat} {u : Int} (h : 128 ≤ u) : putF (f + 1) u = (u % 128 + 128) :: putF f (u / 128) := by simp [putF, Int.not_lt.2 h]
theorem putF_len (f : Nat) (u : Int) : (putF f u).length ≤ f := by
  induction f generalizing u with
  | zero => simp [putF]
  | succ f ih => unfold putF; split <;> simp; exact ih _
theorem putF_pos (f : Nat) (u : Int) : 0 < (putF (f + 1) u).length := by unfold putF; split <;> simp
theorem putF_bytes (f : Nat) (u : Int) (h : 0 ≤ u) : ∀ x ∈ putF f u, 0 ≤ x ∧ x ≤ 255 := by
  induction f generalizing u with
  | zero => simp [putF]
  | succ f ih =>
    unfold putF
    split
    · intro x hx; simp at hx; omega
    · intro x hx
      rcases List.mem_cons.1 hx with rfl | hx
      · omega
      · exact ih _ (by omega) x hx

theorem get_put (f : Nat) : ∀ (i : Nat) (acc v : Int) (rest : List Int), i + f = 9 → 0 ≤ v → v < 2 * 128 ^ f → (0 < i → v ≠ 0) →
    getF (putF (f + 1) v ++ rest) i acc = some (acc + v * 128 ^ i, i + (putF (f + 1) v).length) := by
  induction f with
  | zero =>
    intro i acc v rest hi h0 h1 h2
    simp only [Int.pow_zero] at h1
    rw [putF_lt (by omega)]
    simp only [List.cons_append, List.nil_append, getF]
    rw [if_neg (by omega), if_neg (fun h => h2 h.1 h.2), if_pos (by omega)]
    rfl
  | succ f ih =>
    intro i acc v rest hi h0 h1 h2
    by_cases hv : v < 128
    · rw [putF_lt hv]
      simp only [List.cons_append, List.nil_append, getF]
      rw [if_neg (by omega), if_neg (fun h => h2 h.1 h.2), if_pos hv]
      rfl
    · rw [putF_ge (by omega)]
      simp only [List.cons_append, getF]
      rw [if_neg (by omega), if_neg (by omega), if_neg (by omega)]
      have hp : (128 : Int) ^ (f + 1) = 128 ^ f * 128 := Int.pow_succ _ _
      rw [ih (i + 1) _ (v / 128) rest (by omega) (by omega) (by omega) (by omega)]
      have hq : (128 : Int) ^ (i + 1) = 128 ^ i * 128 := Int.pow_succ _ _
      have e : acc + (v % 128 + 128 - 128) * 128 ^ i + v / 128 * 128 ^ (i + 1) = acc + v * 128 ^ i := by
        rw [hq, Int.add_sub_cancel, Int.add_assoc]
        congr 1
        have : v / 128 * (128 ^ i * 128) = (v / 128 * 128) * 128 ^ i := by
          rw [Int.mul_comm (128 ^ i) 128, ← Int.mul_assoc]
        rw [this, ← Int.add_mul]
        congr 1
        omega
      rw [e]
      simp only [List.length_cons]
      congr 2
      omega

theorem put_get (l : List Int) : ∀ (f i : Nat) (acc u : Int) (k : Nat), i + f = 9 → (∀ x ∈ l, 0 ≤ x ∧ x ≤ 255) → getF l i acc = some (u, k) →
    ∃ v, u = acc + v * 128 ^ i ∧ 0 ≤ v ∧ v < 2 * 128 ^ f ∧ (0 < i → v ≠ 0) ∧ l.take (k - i) = putF (f + 1) v ∧ i < k ∧ k ≤ i + l.length := by
  induction l with
  | nil => intro f i acc u k _ _ h; simp [getF] at h
  | cons x xs ih =>
    intro f i acc u k hi hb h
    have hx := hb x (by simp)
    unfold getF at h
    by_cases c1 : i = 9 ∧ 1 < x
    · rw [if_pos c1] at h; cases h
    rw [if_neg c1] at h
    by_cases c2 : 0 < i ∧ x = 0
    · rw [if_pos c2] at h; cases h
    rw [if_neg c2] at h
    have hp := pow_pos128 f
    by_cases c3 : x < 128
    · rw [if_pos c3] at h
      simp only [Option.some.injEq, Prod.mk.injEq] at h
      obtain ⟨rfl, rfl⟩ := h
      refine ⟨x, rfl, hx.1, ?_, fun h0 h1 => c2 ⟨h0, h1⟩, ?_, by omega, by simp⟩
      · cases f with
        | zero => simp; omega
        | succ f =>
          have hp' := pow_pos128 f
          rw [Int.pow_succ]; omega
      · rw [putF_lt c3, Nat.add_sub_cancel_left]; rfl
    · rw [if_neg c3] at h
      cases f with
      | zero => omega
      | succ f =>
        obtain ⟨v, hu, h0, h1, h2, h3, h4, h5⟩ := ih f (i + 1) _ u k (by omega) (fun y hy => hb y (by simp [hy])) h
        have hv : v ≠ 0 := h2 (by omega)
        have hpw : (128 : Int) ^ (f + 1) = 128 ^ f * 128 := Int.pow_succ _ _
        refine ⟨x - 128 + 128 * v, ?_, by omega, by omega, by omega, ?_, by omega, by simp; omega⟩
        · rw [hu, Int.pow_succ, Int.add_assoc]
          congr 1
          rw [Int.add_mul]
          congr 1
          rw [Int.mul_comm 128 v, Int.mul_assoc, Int.mul_comm (128 ^ i) 128]
        · rw [putF_ge (by omega)]
          have e1 : (x - 128 + 128 * v) % 128 + 128 = x := by omega
          have e2 : (x - 128 + 128 * v) / 128 = v := by omega
          rw [e1, e2, ← h3, show k - i = (k - (i + 1)) + 1 from by omega]
          rfl

/-- the bytes of a number -/
def putZ (n : Int) : List Int := putF 10 (turnZ n)
/-- the number with which bytes begin, and how many they are -/
def getZ (l : List Int) : Option (Int × Nat) := (getF l 0 0).map fun p => (backZ p.1, p.2)

def inI (n : Int) : Prop := -9223372036854775808 ≤ n ∧ n ≤ 9223372036854775807

theorem getZ_put (n : Int) (hn : inI n) (rest : List Int) : getZ (putZ n ++ rest) = some (n, (putZ n).length) := by
  obtain ⟨h1, h2⟩ := turn_rng n hn.1 hn.2
  have h := get_put 9 0 0 (turnZ n) rest rfl h1 (by simp only [show (128 : Int) ^ 9 = 9223372036854775808 from by decide]; omega) (by omega)
  simp only [getZ, putZ, h, Option.map_some, Int.pow_zero, Int.mul_one, Int.zero_add, back_turn, Nat.zero_add]
theorem getZ_some {l : List Int} {n : Int} {k : Nat} (hb : ∀ x ∈ l, 0 ≤ x ∧ x ≤ 255) (h : getZ l = some (n, k)) :
    inI n ∧ l.take k = putZ n ∧ k = (putZ n).length ∧ 0 < k ∧ k ≤ l.length := by
  simp only [getZ, Option.map_eq_some_iff, Prod.mk.injEq] at h
  obtain ⟨⟨u, k'⟩, hg, rfl, rfl⟩ := h
  obtain ⟨v, hu, h0, h1, _, h3, h4, h5⟩ := put_get l 9 0 0 u k' rfl hb hg
  simp only [Int.pow_zero, Int.mul_one, Int.zero_add] at hu
  subst hu
  simp only [show (128 : Int) ^ 9 = 9223372036854775808 from by decide] at h1
  have e : l.take k' = putZ (backZ u) := by unfold putZ; rw [turn_back u h0]; simpa using h3
  refine ⟨back_rng u h0 (by omega), e, ?_, h4, by omega⟩
  rw [← e, List.length_take]
  omega
theorem putZ_len (n : Int) : 0 < (putZ n).length ∧ (putZ n).length ≤ 10 := ⟨putF_pos _ _, putF_len _ _⟩
theorem putZ_bytes (n : Int) (hn : inI n) : ∀ x ∈ putZ n, 0 ≤ x ∧ x ≤ 255 := putF_bytes _ _ (turn_rng n hn.1 hn.2).1
/-- nothing is got of a shorter beginning -/
theorem getZ_short {l : List Int} {n : Int} {k j : Nat} (hb : ∀ x ∈ l, 0 ≤ x ∧ x ≤ 255) (h : getZ l = some (n, k)) (hj : j < k) : getZ (l.take j) = none := by
  cases h' : getZ (l.take j) with
  | none => rfl
  | some p =>
    exfalso
    obtain ⟨m, i⟩ := p
    obtain ⟨hm, e1, e2, _, e4⟩ := getZ_some (fun x hx => hb x (List.mem_of_mem_take hx)) h'
    have hi : i ≤ j := by rw [List.length_take] at e4; omega
    have e5 : l.take i = putZ m := by rw [← e1, List.take_take, Nat.min_eq_left hi]
    have h6 : getZ l = some (m, (putZ m).length) := by
      have := getZ_put m hm (l.drop i)
      rwa [← e5, List.take_append_drop, e5] at this
    rw [h] at h6
    simp only [Option.some.injEq, Prod.mk.injEq] at h6
    omega
theorem putZ_inj {m n : Int} (hm : inI m) (hn : inI n) (h : putZ m = putZ n) : m = n := by
  have h1 := getZ_put m hm []
  have h2 := getZ_put n hn []
  rw [h, h2] at h1
  simp only [Option.some.injEq, Prod.mk.injEq] at h1
  exact h1.1.symm

/-- the groups, put together -/
def valF : List Int → Int
  | [] => 0
  | x :: xs => x % 128 + 128 * valF xs
theorem valF_nonneg (l : List Int) : 0 ≤ valF l := by
  induction l with
  | nil => simp [valF]
  | cons x xs ih => simp only [valF]; omega
theorem valF_put (f : Nat) : ∀ v : Int, 0 ≤ v → v < 128 ^ (f + 1) → valF (putF (f + 1) v) = v := by
  induction f with
  | zero =>
    intro v h0 h1
    rw [putF_lt (by simpa using h1)]
    simp only [valF]
    simp at h1
    omega
  | succ f ih =>
    intro v h0 h1
    by_cases h : v < 128
    · rw [putF_lt h]; simp only [valF]; omega
    · rw [putF_ge (by omega)]
      have hp : (128 : Int) ^ (f + 1 + 1) = 128 ^ (f + 1) * 128 := Int.pow_succ _ _
      simp only [valF]
      rw [ih (v / 128) (by omega) (by omega)]
      omega
/-- the last group alone is below 128 -/
theorem putF_at (f : Nat) : ∀ (v : Int) (j : Nat) (x : Int), 0 ≤ v → v < 128 ^ (f + 1) → (putF (f + 1) v)[j]? = some x → (x < 128 ↔ j + 1 = (putF (f + 1) v).length) := by
  induction f with
  | zero =>
    intro v j x h0 h1 hj
    simp at h1
    rw [putF_lt h1] at hj ⊢
    match j, hj with
    | 0, hj => simp at hj; subst hj; simp [h1]
  | succ f ih =>
    intro v j x h0 h1 hj
    by_cases h : v < 128
    · rw [putF_lt h] at hj ⊢
      match j, hj with
      | 0, hj => simp at hj; subst hj; simp [h]
    · rw [putF_ge (by omega)] at hj ⊢
      have hp : (128 : Int) ^ (f + 1 + 1) = 128 ^ (f + 1) * 128 := Int.pow_succ _ _
      have hpos := putF_pos f (v / 128)
      match j, hj with
      | 0, hj => simp at hj; subst hj; simp; constructor
                 · intro h; omega
                 · intro h; rw [h] at hpos; simp at hpos
      | j + 1, hj =>
        rw [List.getElem?_cons_succ] at hj
        have := ih (v / 128) j x (by omega) (by omega) hj
        simp only [List.length_cons]
        omega
theorem putZ_at {n : Int} (hn : inI n) {j : Nat} {x : Int} (h : (putZ n)[j]? = some x) : x < 128 ↔ j + 1 = (putZ n).length := by
  obtain ⟨h1, h2⟩ := turn_rng n hn.1 hn.2
  exact putF_at 9 _ j x h1 (by simp only [show (128 : Int) ^ (9 + 1) = 1180591620717411303424 from by decide]; omega) h
theorem valF_putZ {n : Int} (hn : inI n) : valF (putZ n) = turnZ n := by
  obtain ⟨h1, h2⟩ := turn_rng n hn.1 hn.2
  exact valF_put 9 _ h1 (by simp only [show (128 : Int) ^ (9 + 1) = 1180591620717411303424 from by decide]; omega)
/-- where the number ends that is got -/
theorem getZ_end {l : List Int} (hb : ∀ x ∈ l, 0 ≤ x ∧ x ≤ 255) {n : Int} {k : Nat} (h : getZ l = some (n, k)) : k ≤ 10 ∧ ∃ x, l[k - 1]? = some x ∧ x < 128 ∧ ∀ j y, j < k - 1 → l[j]? = some y → 128 ≤ y := by
  obtain ⟨hn, e1, e2, e3, e4⟩ := getZ_some hb h
  have hl := putZ_len n
  have hx : l[k - 1]? = some (l[k - 1]'(by omega)) := List.getElem?_eq_getElem (by omega)
  have at_ : ∀ j, j < k → (putZ n)[j]? = l[j]? := by
    intro j hj
    rw [← e1, List.getElem?_take, if_pos hj]
  refine ⟨by omega, _, hx, ?_, ?_⟩
  · exact (putZ_at hn ((at_ (k - 1) (by omega)).trans hx)).2 (by omega)
  · intro j y hj hy
    have := putZ_at hn ((at_ j (by omega)).trans hy)
    omega
/-- where all bytes are high, or ten of them, nothing is got -/
theorem getZ_high {l : List Int} (hb : ∀ x ∈ l, 0 ≤ x ∧ x ≤ 255) {m : Nat} (hm : m = 10 ∨ m = l.length) (hh : ∀ j y, j < m → l[j]? = some y → 128 ≤ y) : getZ l = none := by
  cases h : getZ l with
  | none => rfl
  | some p =>
    exfalso
    obtain ⟨n, k⟩ := p
    obtain ⟨_, x, hx, hlt, _⟩ := getZ_end hb h
    obtain ⟨_, _, e2, e3, e4⟩ := getZ_some hb h
    have := putZ_len n
    have := hh (k - 1) x (by omega) hx
    omega
/-- nothing is got, or what the groups up to the first low one are -/
theorem getZ_val {l : List Int} (hb : ∀ x ∈ l, 0 ≤ x ∧ x ≤ 255) {k : Nat} (hk : k < l.length) (hh : ∀ j y, j < k → l[j]? = some y → 128 ≤ y) (hlow : ∀ y, l[k]? = some y → y < 128) :
    getZ l = if putZ (backZ (valF (l.take (k + 1)) % 18446744073709551616)) = l.take (k + 1) then some (backZ (valF (l.take (k + 1)) % 18446744073709551616), k + 1) else none := by
  have hrng := back_rng (valF (l.take (k + 1)) % 18446744073709551616) (by omega) (by omega)
  by_cases he : putZ (backZ (valF (l.take (k + 1)) % 18446744073709551616)) = l.take (k + 1)
  · rw [if_pos he]
    have h := getZ_put _ hrng (l.drop (k + 1))
    rw [he, List.take_append_drop, List.length_take] at h
    rw [h, Nat.min_eq_left (by omega)]
  · rw [if_neg he]
    cases h : getZ l with
    | none => rfl
    | some p =>
      exfalso
      obtain ⟨n, j⟩ := p
      obtain ⟨_, x, hx, hlt, hhi⟩ := getZ_end hb h
      obtain ⟨hn, e1, e2, e3, e4⟩ := getZ_some hb h
      have hjk : j = k + 1 := by
        rcases Nat.lt_trichotomy (j - 1) k with h1 | h1 | h1
        · have := hh (j - 1) x h1 hx; omega
        · omega
        · have hy : l[k]? = some (l[k]'hk) := List.getElem?_eq_getElem hk
          have h2 := hhi k _ h1 hy
          have h3 := hlow _ hy
          omega
      subst hjk
      apply he
      have ht := turn_rng n hn.1 hn.2
      rw [e1, valF_putZ hn, Int.emod_eq_of_lt (by omega) (by omega), back_turn]
end Go.Proofs.Ytlgpijdemfccaaa

namespace Go.Proofs.Ytlgpijdemfccaaa
set_option maxRecDepth 100000

/-- each quote twice -/
def quo : List UInt8 → List UInt8
  | [] => []
  | c :: r => if c = 39 then 39 :: 39 :: quo r else c :: quo r

theorem index_skip {c : UInt8} {l t : List UInt8} (hc : c ≠ 39) : Lib.index (c :: l) (39 :: t) = if Lib.index l (39 :: t) == -1 then -1 else Lib.index l (39 :: t) + 1 := by
  have h : (39 :: t).isPrefixOf (c :: l) = false := by simp [List.isPrefixOf, Ne.symm hc]
  rw [Lib.index, h]; rfl

theorem count_skip {c : UInt8} {l t : List UInt8} (hc : c ≠ 39) : Lib.count (c :: l) (39 :: t) = Lib.count l (39 :: t) := by
  by_cases h : Lib.index l (39 :: t) = -1
  · rw [Lib.count_miss h, Lib.count_miss (by rw [index_skip hc, h]; rfl)]
  · obtain ⟨i, hi⟩ : ∃ i : Nat, Lib.index l (39 :: t) = i := ⟨(Lib.index l (39 :: t)).toNat, by have := Lib.index_ge l (39 :: t); omega⟩
    have hi' : Lib.index (c :: l) (39 :: t) = ((i + 1 : Nat) : Int) := by
      rw [index_skip hc, if_neg (by simpa using h), hi]; simp
    rw [Lib.count_hit (by simp) hi, Lib.count_hit (by simp) hi']
    have hd : List.drop (i + 1 + (39 :: t).length) (c :: l) = List.drop (i + (39 :: t).length) l := by rw [Nat.add_right_comm, List.drop_succ_cons]
    rw [hd]

theorem replaceK_skip {c : UInt8} {t new : List UInt8} (hc : c ≠ 39) : ∀ (k : Nat) (l : List UInt8), Lib.replaceK (39 :: t) new k (c :: l) = c :: Lib.replaceK (39 :: t) new k l
  | 0, l => rfl
  | k + 1, l => by
    by_cases h : Lib.index l (39 :: t) = -1
    · rw [Lib.replaceK, if_pos (by rw [index_skip hc, h]; rfl), Lib.replaceK, if_pos (by rw [h]; rfl)]
    · obtain ⟨i, hi⟩ : ∃ i : Nat, Lib.index l (39 :: t) = i := ⟨(Lib.index l (39 :: t)).toNat, by have := Lib.index_ge l (39 :: t); omega⟩
      have hi' : Lib.index (c :: l) (39 :: t) = ((i + 1 : Nat) : Int) := by
        rw [index_skip hc, if_neg (by simpa using h), hi]; simp
      rw [Lib.replaceK_hit _ _ _ _ _ hi, Lib.replaceK_hit _ _ _ _ _ hi']
      have hd : List.drop (i + 1 + (39 :: t).length) (c :: l) = List.drop (i + (39 :: t).length) l := by rw [Nat.add_right_comm, List.drop_succ_cons]
      rw [hd]
      simp

theorem replaceNum_all (s old : List UInt8) : Lib.replaceNum s old (-1) = Lib.count s old := by simp [Lib.replaceNum]

theorem quo_is (s : List UInt8) : Lib.replaceAll s [39] [39, 39] = quo s := by
  rw [Lib.replaceAll, Lib.replace, if_neg (by decide), replaceNum_all]
  induction s with
  | nil => decide
  | cons c r ih =>
    by_cases hc : c = 39
    · subst hc
      have h0 : Lib.index (39 :: r) [39] = ((0 : Nat) : Int) := by simp [Lib.index, List.isPrefixOf]
      rw [Lib.count_hit (by simp) h0, Nat.add_comm, Lib.replaceK_hit _ _ _ _ _ h0]
      simp [quo, ih]
    · rw [count_skip hc, replaceK_skip hc, ih, quo, if_neg hc]

theorem quo_back (x : List UInt8) : Lib.replaceAll (quo x) [39, 39] [39] = x := by
  rw [Lib.replaceAll, Lib.replace, if_neg (by decide), replaceNum_all]
  induction x with
  | nil => decide
  | cons c r ih =>
    by_cases hc : c = 39
    · subst hc
      rw [quo, if_pos rfl]
      have h0 : Lib.index (39 :: 39 :: quo r) [39, 39] = ((0 : Nat) : Int) := by simp [Lib.index, List.isPrefixOf]
      rw [Lib.count_hit (by simp) h0, Nat.add_comm, Lib.replaceK_hit _ _ _ _ _ h0]
      simp [ih]
    · rw [quo, if_neg hc, count_skip hc, replaceK_skip hc, ih]

theorem quo_len (s : List UInt8) : (quo s).length ≤ 2 * s.length := by
  induction s with
  | nil => simp [quo]
  | cons c r ih => rw [quo]; split <;> simp <;> omega

theorem replaceK_len (k : Nat) : ∀ s : List UInt8, (Lib.replaceK [39, 39] [39] k s).length ≤ s.length := by
  induction k with
  | zero => intro s; exact Nat.le_refl _
  | succ k ih =>
    intro s
    rw [Lib.replaceK]
    split
    · exact Nat.le_refl _
    · rename_i h
      have h0 := Lib.index_ge s [39, 39]
      have hne : Lib.index s [39, 39] ≠ -1 := by simpa using h
      have hr := Lib.index_room s [39, 39] (by omega)
      have h2 := ih (s.drop ((Lib.index s [39, 39]).toNat + [39, 39].length))
      simp at hr h2 ⊢
      omega

/-! ### numerals -/

theorem dec_digit (u : Nat) : ∀ c ∈ Lib.decDigits u, 48 ≤ c.toNat ∧ c.toNat ≤ 57 := by
  induction u using Nat.strongRecOn with
  | _ u ih =>
    intro c hc
    rw [Lib.decDigits] at hc
    split at hc
    · rename_i h
      simp at hc; subst hc
      simp [UInt8.toNat_ofNat']; omega
    · rename_i h
      rw [List.mem_append] at hc
      rcases hc with hc | hc
      · exact ih (u / 10) (by omega) c hc
      · simp at hc; subst hc
        simp [UInt8.toNat_ofNat']; omega

theorem dec_ne (u : Nat) : Lib.decDigits u ≠ [] := by
  intro h
  have := Lib.decDigits_length u
  rw [h] at this
  have h2 := Lib.nDigits_pos u
  simp at this; omega

theorem parse_app : ∀ (a b : List UInt8) (acc : Nat), Lib.parseUint10 acc (a ++ b) = match Lib.parseUint10 acc a with
    | .ok v => Lib.parseUint10 v b
    | x => x
  | [], b, acc => by simp [Lib.parseUint10]
  | c :: r, b, acc => by
    simp only [List.cons_append, Lib.parseUint10]
    split
    · split
      · rfl
      · split
        · rfl
        · exact parse_app r b _
    · rfl

theorem parse_dec (u : Nat) (hu : u < 1844674407370955162) : Lib.parseUint10 0 (Lib.decDigits u) = .ok u := by
  induction u using Nat.strongRecOn with
  | _ u ih =>
    rw [Lib.decDigits]
    split
    · rename_i h
      have e : (UInt8.ofNat (48 + u)).toNat = 48 + u := by simp [UInt8.toNat_ofNat']; omega
      simp only [Lib.parseUint10, e]
      rw [if_pos (by omega), if_neg (by omega), if_neg (by omega)]
      congr 1; omega
    · rename_i h
      have e : (UInt8.ofNat (48 + u % 10)).toNat = 48 + u % 10 := by simp [UInt8.toNat_ofNat']; omega
      rw [parse_app, ih (u / 10) (by omega) (by omega)]
      simp only [Lib.parseUint10, e]
      rw [if_pos (by omega), if_neg (by omega), if_neg (by omega)]
      congr 1; omega

theorem atoi_itoa {n : Int} (h1 : -1099511627776 ≤ n) (h2 : n ≤ 1099511627776) : Lib.atoiAll (Lib.itoa n) = .ok n := by
  unfold Lib.itoa
  split
  · rename_i hn
    simp only [Lib.atoiAll]
    rw [if_pos (by decide)]
    rw [Lib.parseMag, if_neg (dec_ne _), parse_dec _ (by omega)]
    simp only []
    rw [if_neg (by simp), if_neg (by simp; omega)]
    simp; omega
  · rename_i hn
    have hd := dec_digit n.toNat
    have hp := parse_dec n.toNat (by omega)
    have hm : Lib.parseMag (Lib.decDigits n.toNat) = .ok n.toNat := by rw [Lib.parseMag, if_neg (dec_ne _), hp]
    cases hl : Lib.decDigits n.toNat with
    | nil => exact absurd hl (dec_ne _)
    | cons c r =>
      have hc := hd c (by rw [hl]; simp)
      rw [hl] at hm
      simp only [Lib.atoiAll]
      rw [if_neg (by omega), hm]
      simp only []
      rw [if_neg (by omega), if_neg (by omega), if_neg (by omega)]
      congr 1; omega

theorem itoa_head (n : Int) : ∃ c r, Lib.itoa n = c :: r ∧ c ≠ 39 ∧ c ≠ 110 := by
  unfold Lib.itoa
  split
  · exact ⟨_, _, rfl, by decide, by decide⟩
  · cases hl : Lib.decDigits n.toNat with
    | nil => exact absurd hl (dec_ne _)
    | cons c r =>
      have hc := dec_digit n.toNat c (by rw [hl]; simp)
      refine ⟨c, r, rfl, ?_, ?_⟩ <;> (rintro rfl; revert hc; decide)

/-! ### values -/

/-- may a value be: its kind, its number, how many bytes its text has -/
def rightZ (k n : Int) (m : Nat) : Bool := (k == 0 && n == 0 && m == 0) || (k == 1 && decide (-1099511627776 ≤ n) && decide (n ≤ 1099511627776) && m == 0) || (k == 2 && n == 0 && decide (m ≤ 200))

/-- what a value shows -/
def showZ (k n : Int) (s : List UInt8) : List UInt8 := if k = 0 then [110, 117, 108, 108] else if k = 1 then Lib.itoa n else if k = 2 then 39 :: (quo s ++ [39]) else [63]

/-- the number that Atoi hands back, be there an error or none -/
def atoiN (l : List UInt8) : Int := match Lib.atoiAll l with
  | .ok v => v
  | .range => Lib.atoiSat l
  | _ => 0

def guessK (l : List UInt8) : Int := if l = [110, 117, 108, 108] then 0 else if Lib.hasPrefix l [39] then 2 else 1
def guessN (l : List UInt8) : Int := if l = [110, 117, 108, 108] then 0 else if Lib.hasPrefix l [39] then 0 else atoiN l
def guessS (l : List UInt8) : List UInt8 := if l = [110, 117, 108, 108] then [] else if Lib.hasPrefix l [39] then Lib.replaceAll (Lib.trimSuffix (Lib.trimPrefix l [39]) [39]) [39, 39] [39] else []

theorem guess_show {k n : Int} {s : List UInt8} (h : rightZ k n s.length = true) : guessK (showZ k n s) = k ∧ guessN (showZ k n s) = n ∧ guessS (showZ k n s) = s := by
  simp [rightZ] at h
  rcases h with (⟨⟨rfl, rfl⟩, h3⟩ | ⟨⟨⟨rfl, h2⟩, h3⟩, h4⟩) | ⟨⟨rfl, rfl⟩, h3⟩
  · have : s = [] := by cases s <;> simp_all
    subst this
    simp [showZ, guessK, guessN, guessS]
  · have : s = [] := by cases s <;> simp_all
    subst this
    obtain ⟨c, r, hl, hc, hd⟩ := itoa_head n
    have e : showZ 1 n [] = Lib.itoa n := by simp [showZ]
    have h1 : ¬ Lib.itoa n = [110, 117, 108, 108] := by rw [hl]; simp [hd]
    have h2' : Lib.hasPrefix (Lib.itoa n) [39] = false := by rw [hl]; simp [Lib.hasPrefix, List.isPrefixOf, Ne.symm hc]
    simp [e, guessK, guessN, guessS, h1, h2', atoiN, atoi_itoa h2 h3]
  · have e : showZ 2 0 s = 39 :: (quo s ++ [39]) := by simp [showZ]
    have h1 : ¬ (39 :: (quo s ++ [39])) = ([110, 117, 108, 108] : List UInt8) := by simp
    have h2' : Lib.hasPrefix (39 :: (quo s ++ [39])) [39] = true := by simp [Lib.hasPrefix, List.isPrefixOf]
    have h3' : Lib.trimPrefix (39 :: (quo s ++ [39])) [39] = quo s ++ [39] := by simp [Lib.trimPrefix, h2']
    have h4 : Lib.trimSuffix (quo s ++ [39]) [39] = quo s := by
      have : Lib.hasSuffix (quo s ++ [39]) [39] = true := by simp [Lib.hasSuffix]
      simp [Lib.trimSuffix, this]
    simp [e, guessK, guessN, guessS, h1, h2', h3', h4, quo_back]

theorem show_inj {k n k' n' : Int} {s s' : List UInt8} (h : rightZ k n s.length = true) (h' : rightZ k' n' s'.length = true) (e : showZ k n s = showZ k' n' s') : k = k' ∧ n = n' ∧ s = s' := by
  have a := guess_show h
  have b := guess_show h'
  rw [e] at a
  exact ⟨a.1.symm.trans b.1, a.2.1.symm.trans b.2.1, a.2.2.symm.trans b.2.2⟩

/-- is l read as what is guessed of it -/
def readOk (l : List UInt8) : Bool := rightZ (guessK l) (guessN l) (guessS l).length && decide (showZ (guessK l) (guessN l) (guessS l) = l)
def readK (l : List UInt8) : Int := if readOk l then guessK l else 0
def readN (l : List UInt8) : Int := if readOk l then guessN l else 0
def readS (l : List UInt8) : List UInt8 := if readOk l then guessS l else []
def readE (l : List UInt8) : Int := if readOk l then 0 else 3

theorem readOk_show {k n : Int} {s : List UInt8} (h : rightZ k n s.length = true) : readOk (showZ k n s) = true := by
  obtain ⟨a, b, c⟩ := guess_show h
  simp [readOk, a, b, c, h]

theorem readOk_of {k n : Int} {s l : List UInt8} (h : rightZ k n s.length = true) (e : showZ k n s = l) : readOk l = true ∧ readK l = k ∧ readN l = n ∧ readS l = s ∧ readE l = 0 := by
  subst e
  have h0 := readOk_show h
  obtain ⟨a, b, c⟩ := guess_show h
  simp [readK, readN, readS, readE, h0, a, b, c]

/-! ### what the document's answer reads -/

def numAcc : Nat → List UInt8 → Int → Int
  | 0, _, n => n
  | _ + 1, [], n => n
  | f + 1, c :: r, n => numAcc f r (if 48 ≤ c.toNat ∧ c.toNat ≤ 57 ∧ n < 100000000000000000 then 10 * n + c.toNat - 48 else n)

def unq : List UInt8 → List UInt8
  | [] => []
  | [c] => [c]
  | c :: d :: r => c :: (if c = 39 then unq r else unq (d :: r))

theorem unq_quo (s : List UInt8) : unq (quo s) = s := by
  induction s with
  | nil => rfl
  | cons c r ih =>
    rw [quo]
    split
    · rename_i h; subst h
      rw [unq, if_pos rfl, ih]
    · rename_i h
      cases hq : quo r with
      | nil =>
        rw [hq] at ih
        rw [unq]; rw [← ih]; rfl
      | cons d t =>
        rw [unq, if_neg h, ← hq, ih]

theorem numAcc_app (a : List UInt8) : ∀ (f : Nat) (b : List UInt8) (n : Int), numAcc (a.length + f) (a ++ b) n = numAcc f b (numAcc a.length a n) := by
  induction a with
  | nil => intro f b n; simp [numAcc]
  | cons c r ih =>
    intro f b n
    rw [List.length_cons, Nat.add_right_comm, List.cons_append, numAcc, numAcc, ih]

theorem numAcc_more (a : List UInt8) : ∀ (f : Nat) (n : Int), numAcc (a.length + f) a n = numAcc a.length a n := by
  intro f n
  have := numAcc_app a f [] n
  rw [List.append_nil] at this
  rw [this]
  cases f <;> rfl

theorem numAcc_dec (u : Nat) (hu : u < 100000000000000000) : numAcc (Lib.decDigits u).length (Lib.decDigits u) 0 = u := by
  induction u using Nat.strongRecOn with
  | _ u ih =>
    rw [Lib.decDigits]
    split
    · rename_i h
      have e : (UInt8.ofNat (48 + u)).toNat = 48 + u := by simp [UInt8.toNat_ofNat']; omega
      simp only [List.length_cons, List.length_nil, numAcc, e]
      rw [if_pos (by omega)]; omega
    · rename_i h
      have e : (UInt8.ofNat (48 + u % 10)).toNat = 48 + u % 10 := by simp [UInt8.toNat_ofNat']; omega
      rw [List.length_append, numAcc_app, ih (u / 10) (by omega) (by omega)]
      simp only [List.length_cons, List.length_nil, numAcc, e]
      rw [if_pos (by omega)]; omega

theorem nDigits_le {u : Nat} (h : u < 10 ^ 13) : Lib.nDigits u ≤ 13 := by
  have key : ∀ (j u : Nat), u < 10 ^ (j + 1) → Lib.nDigits u ≤ j + 1 := by
    intro j
    induction j with
    | zero => intro u hu; rw [Lib.nDigits_small (by simpa using hu)]; exact Nat.le_refl _
    | succ j ih =>
      intro u hu
      by_cases h : u < 10
      · rw [Lib.nDigits_small h]; omega
      · rw [Lib.nDigits_big h]
        have := ih (u / 10) (by rw [Nat.pow_succ] at hu; omega)
        omega
  exact key 12 u h

theorem numAcc_itoa {n : Int} (h1 : -1099511627776 ≤ n) (h2 : n ≤ 1099511627776) : numAcc 20 (Lib.itoa n) 0 = n.natAbs := by
  have hp : (10 : Nat) ^ 13 = 10000000000000 := by decide
  unfold Lib.itoa
  split
  · have hd := Lib.decDigits_length n.natAbs
    have hl := nDigits_le (u := n.natAbs) (by omega)
    rw [numAcc, if_neg (by decide)]
    rw [show (19 : Nat) = (Lib.decDigits n.natAbs).length + (19 - (Lib.decDigits n.natAbs).length) by omega, numAcc_more, numAcc_dec _ (by omega)]
  · have hd := Lib.decDigits_length n.toNat
    have hl := nDigits_le (u := n.toNat) (by omega)
    rw [show (20 : Nat) = (Lib.decDigits n.toNat).length + (20 - (Lib.decDigits n.toNat).length) by omega, numAcc_more, numAcc_dec _ (by omega)]
    omega

theorem numAcc_rng (f : Nat) : ∀ (l : List UInt8) (n : Int), 0 ≤ n → n < 1000000000000000000 → 0 ≤ numAcc f l n ∧ numAcc f l n < 1000000000000000000 := by
  induction f with
  | zero => intro l n h0 h1; exact ⟨h0, h1⟩
  | succ f ih =>
    intro l n h0 h1
    cases l with
    | nil => exact ⟨h0, h1⟩
    | cons c r =>
      rw [numAcc]
      split
      · exact ih _ _ (by omega) (by omega)
      · exact ih _ _ h0 h1

/-- l without its first and its last sign -/
def inner (l : List UInt8) : List UInt8 := (l.drop 1).dropLast

theorem ref_read (l : List UInt8) (hn : l ≠ [110, 117, 108, 108]) :
    (rightZ 1 (numAcc 20 l 0) 0 && decide (showZ 1 (numAcc 20 l 0) [] = l) = true → readK l = 1 ∧ readN l = numAcc 20 l 0 ∧ readS l = [] ∧ readE l = 0) ∧
    (rightZ 1 (-numAcc 20 l 0) 0 && decide (showZ 1 (-numAcc 20 l 0) [] = l) = true → readK l = 1 ∧ readN l = -numAcc 20 l 0 ∧ readS l = [] ∧ readE l = 0) ∧
    (rightZ 2 0 (unq (inner l)).length && decide (showZ 2 0 (unq (inner l)) = l) = true → readK l = 2 ∧ readN l = 0 ∧ readS l = unq (inner l) ∧ readE l = 0) ∧
    (¬ (rightZ 1 (numAcc 20 l 0) 0 && decide (showZ 1 (numAcc 20 l 0) [] = l) = true) → ¬ (rightZ 1 (-numAcc 20 l 0) 0 && decide (showZ 1 (-numAcc 20 l 0) [] = l) = true) →
      ¬ (rightZ 2 0 (unq (inner l)).length && decide (showZ 2 0 (unq (inner l)) = l) = true) → readK l = 0 ∧ readN l = 0 ∧ readS l = [] ∧ readE l = 3) := by
  refine ⟨fun h => ?_, fun h => ?_, fun h => ?_, fun h1 h2 h3 => ?_⟩
  · simp only [Bool.and_eq_true, decide_eq_true_eq] at h
    exact (readOk_of (s := []) h.1 h.2).2
  · simp only [Bool.and_eq_true, decide_eq_true_eq] at h
    exact (readOk_of (s := []) h.1 h.2).2
  · simp only [Bool.and_eq_true, decide_eq_true_eq] at h
    exact (readOk_of h.1 h.2).2
  · simp only [Bool.and_eq_true, decide_eq_true_eq] at h1 h2 h3
    have hf : readOk l = false := by
      rw [Bool.eq_false_iff]
      intro h
      simp only [readOk, Bool.and_eq_true, decide_eq_true_eq] at h
      obtain ⟨hr, hs⟩ := h
      revert hr hs
      generalize guessK l = k
      generalize guessN l = n
      generalize guessS l = s
      intro hr hs
      have hr' := hr
      simp [rightZ] at hr
      rcases hr with (⟨⟨rfl, rfl⟩, h4⟩ | ⟨⟨⟨rfl, h4⟩, h5⟩, h6⟩) | ⟨⟨rfl, rfl⟩, h4⟩
      · exact hn (by rw [← hs]; simp [showZ])
      · have : s = [] := by cases s <;> simp_all
        subst this
        have e : l = Lib.itoa n := by rw [← hs]; simp [showZ]
        have hnum : numAcc 20 l 0 = n.natAbs := by rw [e]; exact numAcc_itoa h4 h5
        by_cases hn0 : 0 ≤ n
        · have : (n.natAbs : Int) = n := by omega
          exact h1 (by rw [hnum, this]; exact ⟨hr', hs⟩)
        · have : -(n.natAbs : Int) = n := by omega
          exact h2 (by rw [hnum, this]; exact ⟨hr', hs⟩)
      · have e : l = 39 :: (quo s ++ [39]) := by rw [← hs]; simp [showZ]
        have hi : inner l = quo s := by rw [e]; simp [inner]
        exact h3 (by rw [hi, unq_quo]; exact ⟨hr', hs⟩)
    simp [readK, readN, readS, readE, hf]
end Go.Proofs.Ytlgpijdemfccaaa

namespace Go.Proofs.Ytlgpijdemfccaaa
set_option maxRecDepth 100000
open Go.RowKit

abbrev valCells (k n : Int) (s : ByteArray) : Obj := .cells #[.int .i64 k, .int .i64 n, .string s] 23

theorem iem (s : ByteArray) : s.toList.isEmpty = (s.size == 0) := by
  rw [Lib.toList_data]
  cases s with
  | mk a => cases a with | mk l => cases l <;> simp [ByteArray.size]

theorem size_zero {s : ByteArray} (h : s.size = 0) : s = ByteArray.empty := by
  cases s with
  | mk a => cases a with | mk l => cases l with
    | nil => rfl
    | cons x r => simp [ByteArray.size] at h

/-- is a ahead of b -/
def lessZ (k n : Int) (s : ByteArray) (k' n' : Int) (s' : ByteArray) : Bool :=
  decide (k < k') || (decide (k = k') && decide (n < n')) || (decide (k = k') && decide (n = n') && decide (s.data.toList < s'.data.toList))

theorem strLess (s t : ByteArray) : Op.bytesLess s.toList t.toList = decide (s.data.toList < t.data.toList) := by
  rw [bytesLess_eq, Lib.toList_data, Lib.toList_data]

/-- are both one -/
def sameZ (k n : Int) (s : ByteArray) (k' n' : Int) (s' : ByteArray) : Bool := decide (k = k') && decide (n = n') && decide (s = s')

end Go.Proofs.Ytlgpijdemfccaaa

namespace Go.Proofs.Ytlgpijdemfccaaa
set_option maxRecDepth 100000
open Go.RowKit

theorem toList_ne {s t : ByteArray} (h : ¬ s = t) : ¬ s.toList = t.toList := fun e => h (by
  rw [Lib.toList_data, Lib.toList_data] at e
  exact ByteArray.ext (Array.toList_inj.1 e))

theorem fieldsVal : (Try.prog.fieldsOf 23).toList = [{ name := "Kind", type := 3, offset := 0, embedded := false, tag := "", pkgPath := "", byteOffset := 0 }, { name := "N", type := 3, offset := 1, embedded := false, tag := "", pkgPath := "", byteOffset := 8 },
    { name := "S", type := 9, offset := 2, embedded := false, tag := "", pkgPath := "", byteOffset := 16 }] := by kernel_rfl

theorem run_equalIn_val (k n k' n' : Int) (s s' : ByteArray) (W : World) :
    (Op.equalIn 10000 23 (.agg #[.int .i64 k, .int .i64 n, .string s]) (.agg #[.int .i64 k', .int .i64 n', .string s'])).run Try.prog W = .ok (sameZ k n s k' n' s') W := by
  have ht : Try.prog.underlying 23 = some (.struct (Try.prog.fieldsOf 23)) := by kernel_rfl
  have hp : Try.prog.stoodInHeld 23 = false := by kernel_rfl
  have p0 : ∀ a b c : Value, (part 3 #[a, b, c] 0).run Try.prog W = .ok a W := fun _ _ _ => rfl
  have p1 : ∀ a b c : Value, (part 3 #[a, b, c] 1).run Try.prog W = .ok b W := fun _ _ _ => rfl
  have p2 : ∀ a b c : Value, (part 9 #[a, b, c] 2).run Try.prog W = .ok c W := fun _ _ _ => rfl
  have q0 : ∀ a b : Int, (Op.equalIn 9999 3 (.int .i64 a) (.int .i64 b)).run Try.prog W = .ok (a == b) W := fun a b => run_equalIn_int W 9998 _ _ _ a b Try.underlying3
  have q1 : ∀ a b : ByteArray, (Op.equalIn 9999 9 (.string a) (.string b)).run Try.prog W = .ok (a.toList == b.toList) W := fun a b => run_equalIn_string W 9998 _ a b Try.underlying9
  rw [show (10000 : Nat) = 9999 + 1 from rfl, run_equalIn_struct W 9999 _ _ _ ht hp, fieldsVal]
  generalize hP : Try.prog = P at p0 p1 p2 q0 q1 ⊢
  simp only [Op.eqFields]
  rw [if_pos (by decide), if_pos (by decide), if_pos (by decide)]
  simp only [Sem.run_bind, p0, q0, Result.andThen]
  rcases Decidable.em (k = k') with rfl | hk <;> rcases Decidable.em (n = n') with rfl | hn <;> rcases Decidable.em (s = s') with rfl | hs
  all_goals try have hs3 := toList_ne hs
  all_goals simp [sameZ, *, Sem.run_bind, Result.andThen]
end Go.Proofs.Ytlgpijdemfccaaa

