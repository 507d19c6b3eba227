/- Layer 11, in plain mathematics: names; what is amiss in a column, a table, a schema; what is found. -/
import Derived.Test.YtogfnjlhfbpneaaRowMem
namespace Go.Proofs.Ytogfnjlhfbpneaa
set_option maxRecDepth 100000
open Go.RowKit

/-- three numbers: a foreign key, a bound -/
structure F3 where
  a : Int
  b : Int
  c : Int
  deriving DecidableEq
def F3.cells (x : F3) : List Value := [.int .i64 x.a, .int .i64 x.b, .int .i64 x.c]
abbrev F3.agg (x : F3) : Value := .agg #[.int .i64 x.a, .int .i64 x.b, .int .i64 x.c]
theorem f3len (x : F3) : x.cells.length = 3 := rfl

def lowB (b : Int) : Bool := decide (97 ≤ b) && decide (b ≤ 122)
def digB (b : Int) : Bool := decide (48 ≤ b) && decide (b ≤ 57)
def okB (b : Int) : Bool := lowB b || digB b || b == 95
def nameL (l : List Int) : Bool := decide (1 ≤ l.length) && decide (l.length ≤ 12) && lowB (l.getD 0 0) && l.all okB
def nameZ (s : ByteArray) : Bool := nameL (sbytes s)

/-- a table, and where its parts lie -/
structure T6 where
  nm : ByteArray
  ca : Option Addr
  nc : Nat
  cc : Nat
  cols : List C4
  ua : Option Addr
  nu : Nat
  uc : Nat
  uni : List Int
  ha : Option Addr
  nh : Nat
  hc : Nat
  fa : Option Addr
  nf : Nat
  fc : Nat
  fks : List F3
  sa : Option Addr
  ns : Nat
  sc : Nat
  sums : List F3
def T6.cells (t : T6) : List Value := [.string t.nm, .slice t.ca t.nc t.cc, .slice t.ua t.nu t.uc, .slice t.ha t.nh t.hc, .slice t.fa t.nf t.fc, .slice t.sa t.ns t.sc]
abbrev T6.agg (t : T6) : Value := .agg #[.string t.nm, .slice t.ca t.nc t.cc, .slice t.ua t.nu t.uc, .slice t.ha t.nh t.hc, .slice t.fa t.nf t.fc, .slice t.sa t.ns t.sc]
theorem t6len (t : T6) : t.cells.length = 6 := rfl

/-- the first error of so many -/
def firstE : Nat → (Nat → Int) → Int
  | 0, _ => 0
  | n + 1, f => if f 0 = 0 then firstE n (fun i => f (i + 1)) else f 0
theorem firstE_ext : ∀ (n : Nat) (f g : Nat → Int), (∀ i, i < n → f i = g i) → firstE n f = firstE n g
  | 0, _, _, _ => rfl
  | n + 1, f, g, h => by
    simp only [firstE]
    rw [h 0 (by omega), firstE_ext n (fun i => f (i + 1)) (fun i => g (i + 1)) (fun i hi => h (i + 1) (by omega))]
theorem firstE_zero : ∀ (n : Nat) (f : Nat → Int), firstE n f = 0 ↔ ∀ i, i < n → f i = 0
  | 0, _ => by simp [firstE]
  | n + 1, f => by
    simp only [firstE]
    constructor
    · intro h i hi
      split at h
      · rename_i h0
        cases i with
        | zero => exact h0
        | succ i => exact (firstE_zero n _).1 h i (by omega)
      · rename_i h0; exact absurd h h0
    · intro h
      rw [if_pos (h 0 (by omega))]
      exact (firstE_zero n _).2 fun i hi => h (i + 1) (by omega)
/-- so many of them are none: the next one is the first, or none of one more -/
theorem firstE_at : ∀ (n k : Nat) (f : Nat → Int), k < n → (∀ i, i < k → f i = 0) → f k ≠ 0 → firstE n f = f k
  | 0, _, _, h, _, _ => absurd h (by omega)
  | n + 1, 0, f, _, _, h0 => by simp only [firstE]; rw [if_neg h0]
  | n + 1, k + 1, f, h, h1, h0 => by
    simp only [firstE]
    rw [if_pos (h1 0 (by omega)), firstE_at n k (fun i => f (i + 1)) (by omega) (fun i hi => h1 (i + 1) (by omega)) h0]
theorem firstE_append (n m : Nat) (f : Nat → Int) (h : ∀ i, i < n → f i = 0) : firstE (n + m) f = firstE m (fun i => f (n + i)) := by
  induction n generalizing f with
  | zero => simp
  | succ n ih =>
    have e : n + 1 + m = (n + m) + 1 := by omega
    rw [e, firstE, if_pos (h 0 (by omega)), ih _ (fun i hi => h (i + 1) (by omega))]
    refine firstE_ext _ _ _ fun i _ => ?_
    show f (n + i + 1) = _
    congr 1; omega

/-- has one of them the name -/
def hasN {α : Type} (nm : α → ByteArray) (l : List α) (s : ByteArray) : Bool := l.any fun x => decide (nm x = s)

def kindB (k : Int) : Bool := decide (0 ≤ k) && decide (k ≤ 4)
def mayB (k t : Int) : Bool := if t = 1 then decide (k ≠ 4) else if t = 2 then decide (k ≠ 2) && decide (k ≠ 3) else false
def actB (a : Int) : Bool := a == 0 || a == 1 || a == 2
def regB (c : C4) : Bool := c.k == 0 && c.t == 1
def bindB (n : Nat) (col : Int) : Bool := decide (0 < col) && decide (col < (n : Int))
def colOf (l : List C4) (col : Int) : C4 := l.getD col.toNat ⟨⟨#[]⟩, 0, 0, false⟩

def colErr (ahead : List C4) (c : C4) : Int :=
  if nameZ c.nm = false ∨ kindB c.k = false then 1
  else if hasN C4.nm ahead c.nm = true then 5
  else if mayB c.k c.t = false then 6
  else if c.z = true ∧ c.k ≠ 0 ∧ c.k ≠ 1 then 1 else 0
def keyErr (c : C4) : Int := if regB c = false ∨ c.z = true then 6 else 0
def uniErr (cols : List C4) (l : List Int) (i : Nat) : Int :=
  if bindB cols.length (l.getD i 0) = false then 4
  else if 0 < i ∧ l.getD i 0 ≤ l.getD (i - 1) 0 then 1
  else if regB (colOf cols (l.getD i 0)) = false then 6 else 0
def f30 : F3 := ⟨0, 0, 0⟩
def fkErr (nt : Nat) (cols : List C4) (l : List F3) (i : Nat) : Int :=
  if bindB cols.length (l.getD i f30).a = false ∨ (l.getD i f30).b < 0 ∨ (nt : Int) ≤ (l.getD i f30).b then 4
  else if (0 < i ∧ (l.getD i f30).a ≤ (l.getD (i - 1) f30).a) ∨ actB (l.getD i f30).c = false then 1
  else if regB (colOf cols (l.getD i f30).a) = false ∨ ((colOf cols (l.getD i f30).a).z = false ∧ (l.getD i f30).c = 2) then 6 else 0
def sumErr (cols : List C4) (l : List F3) (i : Nat) : Int :=
  if bindB cols.length (l.getD i f30).a = false ∨ bindB cols.length (l.getD i f30).b = false then 4
  else if (l.getD i f30).a = (l.getD i f30).b ∨ (l.getD i f30).c < 0 ∨ 1099511627776 < (l.getD i f30).c then 1
  else if regB (colOf cols (l.getD i f30).a) = false ∨ regB (colOf cols (l.getD i f30).b) = false then 6
  else if ((l.take i).any fun x => decide (x.a = (l.getD i f30).a) && decide (x.b = (l.getD i f30).b)) = true then 5 else 0
def c40 : C4 := ⟨⟨#[]⟩, 0, 0, false⟩
def nameErr (ahead : List T6) (s : ByteArray) : Int := if nameZ s = false then 1 else if hasN T6.nm ahead s = true then 5 else 0
def sizeErr (t : T6) : Int := if t.nc = 0 ∨ 16 < t.nc ∨ 16 < t.nh ∨ 16 < t.nu ∨ 16 < t.nf ∨ 16 < t.ns then 2 else 0
/-- what is asked of a table -/
def askE (nt : Nat) (ahead : List T6) (t : T6) : Nat → Nat × (Nat → Int)
  | 0 => (1, fun _ => nameErr ahead t.nm)
  | 1 => (1, fun _ => sizeErr t)
  | 2 => (t.nc, fun i => colErr (t.cols.take i) (t.cols.getD i c40))
  | 3 => (1, fun _ => keyErr (t.cols.getD 0 c40))
  | 4 => (t.nu, fun i => uniErr t.cols t.uni i)
  | 5 => (t.nf, fun i => fkErr nt t.cols t.fks i)
  | 6 => (t.ns, fun i => sumErr t.cols t.sums i)
  | _ => (0, fun _ => 0)
def ask1 (nt : Nat) (ahead : List T6) (t : T6) (q : Nat) : Int := firstE (askE nt ahead t q).1 (askE nt ahead t q).2
def tabErr (nt : Nat) (ahead : List T6) (t : T6) : Int := firstE 7 (ask1 nt ahead t)
def t60 : T6 := ⟨⟨#[]⟩, none, 0, 0, [], none, 0, 0, [], none, 0, 0, none, 0, 0, [], none, 0, 0, []⟩
def rightE (l : List T6) : Int := if l.length = 0 ∨ 16 < l.length then 2 else firstE l.length (fun i => tabErr l.length (l.take i) (l.getD i t60))

/-- the place of the first one, and whether there is one -/
def findP {α : Type} (p : α → Bool) : List α → Option Nat
  | [] => none
  | x :: l => if p x then some 0 else (findP p l).map (· + 1)
theorem findP_some {α : Type} (p : α → Bool) : ∀ (l : List α) (k : Nat), findP p l = some k ↔ ∃ x, l[k]? = some x ∧ p x = true ∧ ∀ j y, j < k → l[j]? = some y → p y = false
  | [], k => by simp [findP]
  | x :: l, k => by
    simp only [findP]
    split
    · rename_i hx
      constructor
      · intro h
        cases h
        exact ⟨x, rfl, hx, fun j y h => absurd h (by omega)⟩
      · rintro ⟨y, hy, hp, ha⟩
        cases k with
        | zero => rfl
        | succ k => rw [ha 0 x (by omega) rfl] at hx; cases hx
    · rename_i hx
      simp only [Bool.not_eq_true] at hx
      constructor
      · intro h
        obtain ⟨k', hk, rfl⟩ := Option.map_eq_some_iff.1 h
        obtain ⟨y, hy, hp, ha⟩ := (findP_some p l k').1 hk
        refine ⟨y, hy, hp, fun j z hj hz => ?_⟩
        cases j with
        | zero => cases hz; exact hx
        | succ j => exact ha j z (by omega) hz
      · rintro ⟨y, hy, hp, ha⟩
        cases k with
        | zero => cases hy; rw [hx] at hp; cases hp
        | succ k =>
          rw [(findP_some p l k).2 ⟨y, hy, hp, fun j z hj hz => ha (j + 1) z (by omega) hz⟩]; rfl
theorem findP_none {α : Type} (p : α → Bool) : ∀ l : List α, findP p l = none ↔ ∀ x ∈ l, p x = false
  | [] => by simp [findP]
  | x :: l => by
    simp only [findP]
    split
    · rename_i hx
      constructor
      · intro h; cases h
      · intro h; rw [h x (by simp)] at hx; cases hx
    · rename_i hx
      simp only [Bool.not_eq_true] at hx
      rw [Option.map_eq_none_iff, findP_none p l]
      constructor
      · intro h y hy
        rcases List.mem_cons.1 hy with rfl | hy
        · exact hx
        · exact h y hy
      · exact fun h y hy => h y (List.mem_cons_of_mem _ hy)
theorem findP_any {α : Type} (p : α → Bool) (l : List α) : (findP p l).isSome = l.any p := by
  cases h : findP p l with
  | none =>
    have := (findP_none p l).1 h
    symm
    simpa using this
  | some k =>
    obtain ⟨x, hx, hp, _⟩ := (findP_some p l k).1 h
    symm
    simp only [Option.isSome_some, List.any_eq_true]
    exact ⟨x, List.mem_of_getElem? hx, hp⟩
def placeE (o : Option Nat) : Int := match o with | none => -1 | some k => (k : Int)
def at0 (o : Option Nat) : Int := match o with | none => 0 | some k => (k : Int)
def tableP (l : List T6) (s : ByteArray) : Option Nat := findP (fun t => decide (t.nm = s)) l
def columnP (l : List C4) (s : ByteArray) : Option Nat := findP (fun t => decide (t.nm = s)) l
def foreignP (l : List F3) (col : Int) : Option Nat := findP (fun f => decide (f.a = col)) l
def f3At (l : List F3) (o : Option Nat) : F3 := match o with | none => f30 | some k => l.getD k f30

/-- the keys that point to a table -/
def kidsRow (i : Nat) (table : Int) (j : Nat) : List F3 → List (Int × Int)
  | [] => []
  | f :: l => if f.b = table then ((i : Int), (j : Int)) :: kidsRow i table (j + 1) l else kidsRow i table (j + 1) l
def kidsAt (table : Int) (i : Nat) : List T6 → List (Int × Int)
  | [] => []
  | t :: l => kidsRow i table 0 t.fks ++ kidsAt table (i + 1) l
def kidsL (l : List T6) (table : Int) : List (Int × Int) := kidsAt table 0 l

def sizeT (t : T6) : Nat := t.nc + t.nu + t.nh + t.nf + t.ns
def sumT (l : List T6) : Nat := (l.map sizeT).sum
def fewB (l : List T6) : Bool := decide (l.length ≤ 20) && decide (sumT l ≤ 400)
end Go.Proofs.Ytogfnjlhfbpneaa
