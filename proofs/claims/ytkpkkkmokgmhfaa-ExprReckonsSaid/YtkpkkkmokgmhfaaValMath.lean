/- Layer 2, the plain part: what a value shows, what is read, and what its bytes are, as functions of numbers and lists. -/
import Derived.Test.YtkpkkkmokgmhfaaCodeMath
import Derived.Lib.Replace
import Derived.Lib.CountLaws
import Derived.Lib.ItoaNum
import Derived.Lib.AtoiAll
namespace Go.Proofs.Ytkpkkkmokgmhfaa
set_option maxRecDepth 100000

/-- each quote twice -/
def quo : List UInt8 → List UInt8
  | [] => []
  | c :: r => if c = 39 then 39 :: 39 :: quo r else c :: quo r

theorem index_skip {c : UInt8} {l t : List UInt8} (hc : c ≠ 39) : Lib.index (c :: l) (39 :: t) = if Lib.index l (39 :: t) == -1 then -1 else Lib.index l (39 :: t) + 1 := by
  have h : (39 :: t).isPrefixOf (c :: l) = false := by simp [List.isPrefixOf, Ne.symm hc]
  rw [Lib.index, h]; rfl

theorem count_skip {c : UInt8} {l t : List UInt8} (hc : c ≠ 39) : Lib.count (c :: l) (39 :: t) = Lib.count l (39 :: t) := by
  by_cases h : Lib.index l (39 :: t) = -1
  · rw [Lib.count_miss h, Lib.count_miss (by rw [index_skip hc, h]; rfl)]
  · obtain ⟨i, hi⟩ : ∃ i : Nat, Lib.index l (39 :: t) = i := ⟨(Lib.index l (39 :: t)).toNat, by have := Lib.index_ge l (39 :: t); omega⟩
    have hi' : Lib.index (c :: l) (39 :: t) = ((i + 1 : Nat) : Int) := by
      rw [index_skip hc, if_neg (by simpa using h), hi]; simp
    rw [Lib.count_hit (by simp) hi, Lib.count_hit (by simp) hi']
    have hd : List.drop (i + 1 + (39 :: t).length) (c :: l) = List.drop (i + (39 :: t).length) l := by rw [Nat.add_right_comm, List.drop_succ_cons]
    rw [hd]

theorem replaceK_skip {c : UInt8} {t new : List UInt8} (hc : c ≠ 39) : ∀ (k : Nat) (l : List UInt8), Lib.replaceK (39 :: t) new k (c :: l) = c :: Lib.replaceK (39 :: t) new k l
  | 0, l => rfl
  | k + 1, l => by
    by_cases h : Lib.index l (39 :: t) = -1
    · rw [Lib.replaceK, if_pos (by rw [index_skip hc, h]; rfl), Lib.replaceK, if_pos (by rw [h]; rfl)]
    · obtain ⟨i, hi⟩ : ∃ i : Nat, Lib.index l (39 :: t) = i := ⟨(Lib.index l (39 :: t)).toNat, by have := Lib.index_ge l (39 :: t); omega⟩
      have hi' : Lib.index (c :: l) (39 :: t) = ((i + 1 : Nat) : Int) := by
        rw [index_skip hc, if_neg (by simpa using h), hi]; simp
      rw [Lib.replaceK_hit _ _ _ _ _ hi, Lib.replaceK_hit _ _ _ _ _ hi']
      have hd : List.drop (i + 1 + (39 :: t).length) (c :: l) = List.drop (i + (39 :: t).length) l := by rw [Nat.add_right_comm, List.drop_succ_cons]
      rw [hd]
      simp

theorem replaceNum_all (s old : List UInt8) : Lib.replaceNum s old (-1) = Lib.count s old := by simp [Lib.replaceNum]

theorem quo_is (s : List UInt8) : Lib.replaceAll s [39] [39, 39] = quo s := by
  rw [Lib.replaceAll, Lib.replace, if_neg (by decide), replaceNum_all]
  induction s with
  | nil => decide
  | cons c r ih =>
    by_cases hc : c = 39
    · subst hc
      have h0 : Lib.index (39 :: r) [39] = ((0 : Nat) : Int) := by simp [Lib.index, List.isPrefixOf]
      rw [Lib.count_hit (by simp) h0, Nat.add_comm, Lib.replaceK_hit _ _ _ _ _ h0]
      simp [quo, ih]
    · rw [count_skip hc, replaceK_skip hc, ih, quo, if_neg hc]

theorem quo_back (x : List UInt8) : Lib.replaceAll (quo x) [39, 39] [39] = x := by
  rw [Lib.replaceAll, Lib.replace, if_neg (by decide), replaceNum_all]
  induction x with
  | nil => decide
  | cons c r ih =>
    by_cases hc : c = 39
    · subst hc
      rw [quo, if_pos rfl]
      have h0 : Lib.index (39 :: 39 :: quo r) [39, 39] = ((0 : Nat) : Int) := by simp [Lib.index, List.isPrefixOf]
      rw [Lib.count_hit (by simp) h0, Nat.add_comm, Lib.replaceK_hit _ _ _ _ _ h0]
      simp [ih]
    · rw [quo, if_neg hc, count_skip hc, replaceK_skip hc, ih]

theorem quo_len (s : List UInt8) : (quo s).length ≤ 2 * s.length := by
  induction s with
  | nil => simp [quo]
  | cons c r ih => rw [quo]; split <;> simp <;> omega

theorem replaceK_len (k : Nat) : ∀ s : List UInt8, (Lib.replaceK [39, 39] [39] k s).length ≤ s.length := by
  induction k with
  | zero => intro s; exact Nat.le_refl _
  | succ k ih =>
    intro s
    rw [Lib.replaceK]
    split
    · exact Nat.le_refl _
    · rename_i h
      have h0 := Lib.index_ge s [39, 39]
      have hne : Lib.index s [39, 39] ≠ -1 := by simpa using h
      have hr := Lib.index_room s [39, 39] (by omega)
      have h2 := ih (s.drop ((Lib.index s [39, 39]).toNat + [39, 39].length))
      simp at hr h2 ⊢
      omega

/-! ### numerals -/

theorem dec_digit (u : Nat) : ∀ c ∈ Lib.decDigits u, 48 ≤ c.toNat ∧ c.toNat ≤ 57 := by
  induction u using Nat.strongRecOn with
  | _ u ih =>
    intro c hc
    rw [Lib.decDigits] at hc
    split at hc
    · rename_i h
      simp at hc; subst hc
      simp [UInt8.toNat_ofNat']; omega
    · rename_i h
      rw [List.mem_append] at hc
      rcases hc with hc | hc
      · exact ih (u / 10) (by omega) c hc
      · simp at hc; subst hc
        simp [UInt8.toNat_ofNat']; omega

theorem dec_ne (u : Nat) : Lib.decDigits u ≠ [] := by
  intro h
  have := Lib.decDigits_length u
  rw [h] at this
  have h2 := Lib.nDigits_pos u
  simp at this; omega

theorem parse_app : ∀ (a b : List UInt8) (acc : Nat), Lib.parseUint10 acc (a ++ b) = match Lib.parseUint10 acc a with
    | .ok v => Lib.parseUint10 v b
    | x => x
  | [], b, acc => by simp [Lib.parseUint10]
  | c :: r, b, acc => by
    simp only [List.cons_append, Lib.parseUint10]
    split
    · split
      · rfl
      · split
        · rfl
        · exact parse_app r b _
    · rfl

theorem parse_dec (u : Nat) (hu : u < 1844674407370955162) : Lib.parseUint10 0 (Lib.decDigits u) = .ok u := by
  induction u using Nat.strongRecOn with
  | _ u ih =>
    rw [Lib.decDigits]
    split
    · rename_i h
      have e : (UInt8.ofNat (48 + u)).toNat = 48 + u := by simp [UInt8.toNat_ofNat']; omega
      simp only [Lib.parseUint10, e]
      rw [if_pos (by omega), if_neg (by omega), if_neg (by omega)]
      congr 1; omega
    · rename_i h
      have e : (UInt8.ofNat (48 + u % 10)).toNat = 48 + u % 10 := by simp [UInt8.toNat_ofNat']; omega
      rw [parse_app, ih (u / 10) (by omega) (by omega)]
      simp only [Lib.parseUint10, e]
      rw [if_pos (by omega), if_neg (by omega), if_neg (by omega)]
      congr 1; omega

theorem atoi_itoa {n : Int} (h1 : -1099511627776 ≤ n) (h2 : n ≤ 1099511627776) : Lib.atoiAll (Lib.itoa n) = .ok n := by
  unfold Lib.itoa
  split
  · rename_i hn
    simp only [Lib.atoiAll]
    rw [if_pos (by decide)]
    rw [Lib.parseMag, if_neg (dec_ne _), parse_dec _ (by omega)]
    simp only []
    rw [if_neg (by simp), if_neg (by simp; omega)]
    simp; omega
  · rename_i hn
    have hd := dec_digit n.toNat
    have hp := parse_dec n.toNat (by omega)
    have hm : Lib.parseMag (Lib.decDigits n.toNat) = .ok n.toNat := by rw [Lib.parseMag, if_neg (dec_ne _), hp]
    cases hl : Lib.decDigits n.toNat with
    | nil => exact absurd hl (dec_ne _)
    | cons c r =>
      have hc := hd c (by rw [hl]; simp)
      rw [hl] at hm
      simp only [Lib.atoiAll]
      rw [if_neg (by omega), hm]
      simp only []
      rw [if_neg (by omega), if_neg (by omega), if_neg (by omega)]
      congr 1; omega

theorem itoa_head (n : Int) : ∃ c r, Lib.itoa n = c :: r ∧ c ≠ 39 ∧ c ≠ 110 := by
  unfold Lib.itoa
  split
  · exact ⟨_, _, rfl, by decide, by decide⟩
  · cases hl : Lib.decDigits n.toNat with
    | nil => exact absurd hl (dec_ne _)
    | cons c r =>
      have hc := dec_digit n.toNat c (by rw [hl]; simp)
      refine ⟨c, r, rfl, ?_, ?_⟩ <;> (rintro rfl; revert hc; decide)

/-! ### values -/

/-- may a value be: its kind, its number, how many bytes its text has -/
def rightZ (k n : Int) (m : Nat) : Bool := (k == 0 && n == 0 && m == 0) || (k == 1 && decide (-1099511627776 ≤ n) && decide (n ≤ 1099511627776) && m == 0) || (k == 2 && n == 0 && decide (m ≤ 200))

/-- what a value shows -/
def showZ (k n : Int) (s : List UInt8) : List UInt8 := if k = 0 then [110, 117, 108, 108] else if k = 1 then Lib.itoa n else if k = 2 then 39 :: (quo s ++ [39]) else [63]

/-- the number that Atoi hands back, be there an error or none -/
def atoiN (l : List UInt8) : Int := match Lib.atoiAll l with
  | .ok v => v
  | .range => Lib.atoiSat l
  | _ => 0

def guessK (l : List UInt8) : Int := if l = [110, 117, 108, 108] then 0 else if Lib.hasPrefix l [39] then 2 else 1
def guessN (l : List UInt8) : Int := if l = [110, 117, 108, 108] then 0 else if Lib.hasPrefix l [39] then 0 else atoiN l
def guessS (l : List UInt8) : List UInt8 := if l = [110, 117, 108, 108] then [] else if Lib.hasPrefix l [39] then Lib.replaceAll (Lib.trimSuffix (Lib.trimPrefix l [39]) [39]) [39, 39] [39] else []

theorem guess_show {k n : Int} {s : List UInt8} (h : rightZ k n s.length = true) : guessK (showZ k n s) = k ∧ guessN (showZ k n s) = n ∧ guessS (showZ k n s) = s := by
  simp [rightZ] at h
  rcases h with (⟨⟨rfl, rfl⟩, h3⟩ | ⟨⟨⟨rfl, h2⟩, h3⟩, h4⟩) | ⟨⟨rfl, rfl⟩, h3⟩
  · have : s = [] := by cases s <;> simp_all
    subst this
    simp [showZ, guessK, guessN, guessS]
  · have : s = [] := by cases s <;> simp_all
    subst this
    obtain ⟨c, r, hl, hc, hd⟩ := itoa_head n
    have e : showZ 1 n [] = Lib.itoa n := by simp [showZ]
    have h1 : ¬ Lib.itoa n = [110, 117, 108, 108] := by rw [hl]; simp [hd]
    have h2' : Lib.hasPrefix (Lib.itoa n) [39] = false := by rw [hl]; simp [Lib.hasPrefix, List.isPrefixOf, Ne.symm hc]
    simp [e, guessK, guessN, guessS, h1, h2', atoiN, atoi_itoa h2 h3]
  · have e : showZ 2 0 s = 39 :: (quo s ++ [39]) := by simp [showZ]
    have h1 : ¬ (39 :: (quo s ++ [39])) = ([110, 117, 108, 108] : List UInt8) := by simp
    have h2' : Lib.hasPrefix (39 :: (quo s ++ [39])) [39] = true := by simp [Lib.hasPrefix, List.isPrefixOf]
    have h3' : Lib.trimPrefix (39 :: (quo s ++ [39])) [39] = quo s ++ [39] := by simp [Lib.trimPrefix, h2']
    have h4 : Lib.trimSuffix (quo s ++ [39]) [39] = quo s := by
      have : Lib.hasSuffix (quo s ++ [39]) [39] = true := by simp [Lib.hasSuffix]
      simp [Lib.trimSuffix, this]
    simp [e, guessK, guessN, guessS, h1, h2', h3', h4, quo_back]

theorem show_inj {k n k' n' : Int} {s s' : List UInt8} (h : rightZ k n s.length = true) (h' : rightZ k' n' s'.length = true) (e : showZ k n s = showZ k' n' s') : k = k' ∧ n = n' ∧ s = s' := by
  have a := guess_show h
  have b := guess_show h'
  rw [e] at a
  exact ⟨a.1.symm.trans b.1, a.2.1.symm.trans b.2.1, a.2.2.symm.trans b.2.2⟩

/-- is l read as what is guessed of it -/
def readOk (l : List UInt8) : Bool := rightZ (guessK l) (guessN l) (guessS l).length && decide (showZ (guessK l) (guessN l) (guessS l) = l)
def readK (l : List UInt8) : Int := if readOk l then guessK l else 0
def readN (l : List UInt8) : Int := if readOk l then guessN l else 0
def readS (l : List UInt8) : List UInt8 := if readOk l then guessS l else []
def readE (l : List UInt8) : Int := if readOk l then 0 else 3

theorem readOk_show {k n : Int} {s : List UInt8} (h : rightZ k n s.length = true) : readOk (showZ k n s) = true := by
  obtain ⟨a, b, c⟩ := guess_show h
  simp [readOk, a, b, c, h]

theorem readOk_of {k n : Int} {s l : List UInt8} (h : rightZ k n s.length = true) (e : showZ k n s = l) : readOk l = true ∧ readK l = k ∧ readN l = n ∧ readS l = s ∧ readE l = 0 := by
  subst e
  have h0 := readOk_show h
  obtain ⟨a, b, c⟩ := guess_show h
  simp [readK, readN, readS, readE, h0, a, b, c]

/-! ### what the document's answer reads -/

def numAcc : Nat → List UInt8 → Int → Int
  | 0, _, n => n
  | _ + 1, [], n => n
  | f + 1, c :: r, n => numAcc f r (if 48 ≤ c.toNat ∧ c.toNat ≤ 57 ∧ n < 100000000000000000 then 10 * n + c.toNat - 48 else n)

def unq : List UInt8 → List UInt8
  | [] => []
  | [c] => [c]
  | c :: d :: r => c :: (if c = 39 then unq r else unq (d :: r))

theorem unq_quo (s : List UInt8) : unq (quo s) = s := by
  induction s with
  | nil => rfl
  | cons c r ih =>
    rw [quo]
    split
    · rename_i h; subst h
      rw [unq, if_pos rfl, ih]
    · rename_i h
      cases hq : quo r with
      | nil =>
        rw [hq] at ih
        rw [unq]; rw [← ih]; rfl
      | cons d t =>
        rw [unq, if_neg h, ← hq, ih]

theorem numAcc_app (a : List UInt8) : ∀ (f : Nat) (b : List UInt8) (n : Int), numAcc (a.length + f) (a ++ b) n = numAcc f b (numAcc a.length a n) := by
  induction a with
  | nil => intro f b n; simp [numAcc]
  | cons c r ih =>
    intro f b n
    rw [List.length_cons, Nat.add_right_comm, List.cons_append, numAcc, numAcc, ih]

theorem numAcc_more (a : List UInt8) : ∀ (f : Nat) (n : Int), numAcc (a.length + f) a n = numAcc a.length a n := by
  intro f n
  have := numAcc_app a f [] n
  rw [List.append_nil] at this
  rw [this]
  cases f <;> rfl

theorem numAcc_dec (u : Nat) (hu : u < 100000000000000000) : numAcc (Lib.decDigits u).length (Lib.decDigits u) 0 = u := by
  induction u using Nat.strongRecOn with
  | _ u ih =>
    rw [Lib.decDigits]
    split
    · rename_i h
      have e : (UInt8.ofNat (48 + u)).toNat = 48 + u := by simp [UInt8.toNat_ofNat']; omega
      simp only [List.length_cons, List.length_nil, numAcc, e]
      rw [if_pos (by omega)]; omega
    · rename_i h
      have e : (UInt8.ofNat (48 + u % 10)).toNat = 48 + u % 10 := by simp [UInt8.toNat_ofNat']; omega
      rw [List.length_append, numAcc_app, ih (u / 10) (by omega) (by omega)]
      simp only [List.length_cons, List.length_nil, numAcc, e]
      rw [if_pos (by omega)]; omega

theorem nDigits_le {u : Nat} (h : u < 10 ^ 13) : Lib.nDigits u ≤ 13 := by
  have key : ∀ (j u : Nat), u < 10 ^ (j + 1) → Lib.nDigits u ≤ j + 1 := by
    intro j
    induction j with
    | zero => intro u hu; rw [Lib.nDigits_small (by simpa using hu)]; exact Nat.le_refl _
    | succ j ih =>
      intro u hu
      by_cases h : u < 10
      · rw [Lib.nDigits_small h]; omega
      · rw [Lib.nDigits_big h]
        have := ih (u / 10) (by rw [Nat.pow_succ] at hu; omega)
        omega
  exact key 12 u h

theorem numAcc_itoa {n : Int} (h1 : -1099511627776 ≤ n) (h2 : n ≤ 1099511627776) : numAcc 20 (Lib.itoa n) 0 = n.natAbs := by
  have hp : (10 : Nat) ^ 13 = 10000000000000 := by decide
  unfold Lib.itoa
  split
  · have hd := Lib.decDigits_length n.natAbs
    have hl := nDigits_le (u := n.natAbs) (by omega)
    rw [numAcc, if_neg (by decide)]
    rw [show (19 : Nat) = (Lib.decDigits n.natAbs).length + (19 - (Lib.decDigits n.natAbs).length) by omega, numAcc_more, numAcc_dec _ (by omega)]
  · have hd := Lib.decDigits_length n.toNat
    have hl := nDigits_le (u := n.toNat) (by omega)
    rw [show (20 : Nat) = (Lib.decDigits n.toNat).length + (20 - (Lib.decDigits n.toNat).length) by omega, numAcc_more, numAcc_dec _ (by omega)]
    omega

theorem numAcc_rng (f : Nat) : ∀ (l : List UInt8) (n : Int), 0 ≤ n → n < 1000000000000000000 → 0 ≤ numAcc f l n ∧ numAcc f l n < 1000000000000000000 := by
  induction f with
  | zero => intro l n h0 h1; exact ⟨h0, h1⟩
  | succ f ih =>
    intro l n h0 h1
    cases l with
    | nil => exact ⟨h0, h1⟩
    | cons c r =>
      rw [numAcc]
      split
      · exact ih _ _ (by omega) (by omega)
      · exact ih _ _ h0 h1

/-- l without its first and its last sign -/
def inner (l : List UInt8) : List UInt8 := (l.drop 1).dropLast

theorem ref_read (l : List UInt8) (hn : l ≠ [110, 117, 108, 108]) :
    (rightZ 1 (numAcc 20 l 0) 0 && decide (showZ 1 (numAcc 20 l 0) [] = l) = true → readK l = 1 ∧ readN l = numAcc 20 l 0 ∧ readS l = [] ∧ readE l = 0) ∧
    (rightZ 1 (-numAcc 20 l 0) 0 && decide (showZ 1 (-numAcc 20 l 0) [] = l) = true → readK l = 1 ∧ readN l = -numAcc 20 l 0 ∧ readS l = [] ∧ readE l = 0) ∧
    (rightZ 2 0 (unq (inner l)).length && decide (showZ 2 0 (unq (inner l)) = l) = true → readK l = 2 ∧ readN l = 0 ∧ readS l = unq (inner l) ∧ readE l = 0) ∧
    (¬ (rightZ 1 (numAcc 20 l 0) 0 && decide (showZ 1 (numAcc 20 l 0) [] = l) = true) → ¬ (rightZ 1 (-numAcc 20 l 0) 0 && decide (showZ 1 (-numAcc 20 l 0) [] = l) = true) →
      ¬ (rightZ 2 0 (unq (inner l)).length && decide (showZ 2 0 (unq (inner l)) = l) = true) → readK l = 0 ∧ readN l = 0 ∧ readS l = [] ∧ readE l = 3) := by
  refine ⟨fun h => ?_, fun h => ?_, fun h => ?_, fun h1 h2 h3 => ?_⟩
  · simp only [Bool.and_eq_true, decide_eq_true_eq] at h
    exact (readOk_of (s := []) h.1 h.2).2
  · simp only [Bool.and_eq_true, decide_eq_true_eq] at h
    exact (readOk_of (s := []) h.1 h.2).2
  · simp only [Bool.and_eq_true, decide_eq_true_eq] at h
    exact (readOk_of h.1 h.2).2
  · simp only [Bool.and_eq_true, decide_eq_true_eq] at h1 h2 h3
    have hf : readOk l = false := by
      rw [Bool.eq_false_iff]
      intro h
      simp only [readOk, Bool.and_eq_true, decide_eq_true_eq] at h
      obtain ⟨hr, hs⟩ := h
      revert hr hs
      generalize guessK l = k
      generalize guessN l = n
      generalize guessS l = s
      intro hr hs
      have hr' := hr
      simp [rightZ] at hr
      rcases hr with (⟨⟨rfl, rfl⟩, h4⟩ | ⟨⟨⟨rfl, h4⟩, h5⟩, h6⟩) | ⟨⟨rfl, rfl⟩, h4⟩
      · exact hn (by rw [← hs]; simp [showZ])
      · have : s = [] := by cases s <;> simp_all
        subst this
        have e : l = Lib.itoa n := by rw [← hs]; simp [showZ]
        have hnum : numAcc 20 l 0 = n.natAbs := by rw [e]; exact numAcc_itoa h4 h5
        by_cases hn0 : 0 ≤ n
        · have : (n.natAbs : Int) = n := by omega
          exact h1 (by rw [hnum, this]; exact ⟨hr', hs⟩)
        · have : -(n.natAbs : Int) = n := by omega
          exact h2 (by rw [hnum, this]; exact ⟨hr', hs⟩)
      · have e : l = 39 :: (quo s ++ [39]) := by rw [← hs]; simp [showZ]
        have hi : inner l = quo s := by rw [e]; simp [inner]
        exact h3 (by rw [hi, unq_quo]; exact ⟨hr', hs⟩)
    simp [readK, readN, readS, readE, hf]
end Go.Proofs.Ytkpkkkmokgmhfaa
