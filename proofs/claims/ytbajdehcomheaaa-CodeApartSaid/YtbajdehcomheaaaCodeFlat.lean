/- What is got of bytes, part by part: the contracts of both sides in one form. -/
import Derived.Test.YtbajdehcomheaaaRows
import Derived.Test.YtbajdehcomheaaaCodeAlive
namespace Go.Proofs.Ytbajdehcomheaaa
open Go.RowKit

def gN : Option (Int × Nat) → Int | some (n, _) => n | none => 0
def gK : Option (Int × Nat) → Int | some (_, k) => k | none => 0
def gE : Option (Int × Nat) → Int | some _ => 0 | none => 3
def tT : Option (List Int × Nat) → ByteArray | some (t, _) => textOf t | none => ⟨#[]⟩
def tK : Option (List Int × Nat) → Int | some (_, k) => k | none => 0
def tE : Option (List Int × Nat) → Int | some _ => 0 | none => 3
def tL : Option (List Int × Nat) → List Int | some (l, _) => l | none => []

theorem getV_flat (r : Option (Int × Nat)) : getV r = .tuple #[.int .i64 (gN r), .int .i64 (gK r), .int .i64 (gE r)] := by
  rcases r with _ | ⟨n, k⟩ <;> rfl
theorem textV_flat (r : Option (List Int × Nat)) : textV r = .tuple #[.string (tT r), .int .i64 (tK r), .int .i64 (tE r)] := by
  rcases r with _ | ⟨n, k⟩ <;> rfl
theorem nums_flat {r : Option (List Int × Nat)} {e : Ending} {w : World} (h : NumsRet r e w) :
    ∃ A c, e = .returned (.tuple #[.slice A (tL r).length c, .int .i64 (tK r), .int .i64 (tE r)]) ∧ Rd w A (tL r).length c (vals .i64 (tL r)) := by
  rcases r with _ | ⟨xs, k⟩
  · exact ⟨none, 0, h, Rd.nil_ _⟩
  · obtain ⟨A, c, h1, h2⟩ := h
    exact ⟨A, c, h1, h2⟩

section
variable {A : Option Addr} {n c : Nat} {l : List Int} {w : World}
theorem fGet (hrd : Rd w A n c (vals .u8 l)) (hb : ∀ x ∈ l, 0 ≤ x ∧ x ≤ 255) : Calls Try.prog 15 #[.slice A n c] w fun e w' =>
    e = .returned (.tuple #[.int .i64 (gN (getZ l)), .int .i64 (gK (getZ l)), .int .i64 (gE (getZ l))]) ∧ Below w.heap.size w w' :=
  (get_any A n c l w hrd hb).mono fun e w' ⟨h1, h2⟩ => ⟨by rw [h1, getV_flat], by rw [← h2]; exact Below.refl _ _⟩
theorem fRefGet (hrd : Rd w A n c (vals .u8 l)) (hb : ∀ x ∈ l, 0 ≤ x ∧ x ≤ 255) : Calls Try.prog 16 #[.slice A n c] w fun e w' =>
    e = .returned (.tuple #[.int .i64 (gN (getZ l)), .int .i64 (gK (getZ l)), .int .i64 (gE (getZ l))]) ∧ Below w.heap.size w w' :=
  (refGet_any A n c l w hrd hb).mono fun e w' ⟨h1, h2⟩ => ⟨by rw [h1, getV_flat], h2⟩
theorem fText (hrd : Rd w A n c (vals .u8 l)) (hb : ∀ x ∈ l, 0 ≤ x ∧ x ≤ 255) : Calls Try.prog 17 #[.slice A n c] w fun e w' =>
    e = .returned (.tuple #[.string (tT (textZ l)), .int .i64 (tK (textZ l)), .int .i64 (tE (textZ l))]) ∧ Below w.heap.size w w' :=
  (getText_any A n c l w hrd hb).mono fun e w' ⟨h1, h2⟩ => ⟨by rw [h1, textV_flat], h2⟩
theorem fRefText (hrd : Rd w A n c (vals .u8 l)) (hb : ∀ x ∈ l, 0 ≤ x ∧ x ≤ 255) : Calls Try.prog 18 #[.slice A n c] w fun e w' =>
    e = .returned (.tuple #[.string (tT (textZ l)), .int .i64 (tK (textZ l)), .int .i64 (tE (textZ l))]) ∧ Below w.heap.size w w' :=
  (refGetText_any A n c l w hrd hb).mono fun e w' ⟨h1, h2⟩ => ⟨by rw [h1, textV_flat], h2⟩
theorem fNums (hrd : Rd w A n c (vals .u8 l)) (hb : ∀ x ∈ l, 0 ≤ x ∧ x ≤ 255) (hn : n ≤ 4294967296) : Calls Try.prog 19 #[.slice A n c] w fun e w' =>
    ∃ A' c', e = .returned (.tuple #[.slice A' (tL (numsZ l)).length c', .int .i64 (tK (numsZ l)), .int .i64 (tE (numsZ l))]) ∧ Rd w' A' (tL (numsZ l)).length c' (vals .i64 (tL (numsZ l))) ∧ Below w.heap.size w w' :=
  (getNums_any A n c l w hrd hb hn).mono fun e w' ⟨h1, h2⟩ => by
    obtain ⟨A', c', h3, h4⟩ := nums_flat h1
    exact ⟨A', c', h3, h4, h2⟩
theorem fRefNums (hrd : Rd w A n c (vals .u8 l)) (hb : ∀ x ∈ l, 0 ≤ x ∧ x ≤ 255) (hn : n ≤ 4294967296) : Calls Try.prog 20 #[.slice A n c] w fun e w' =>
    ∃ A' c', e = .returned (.tuple #[.slice A' (tL (numsZ l)).length c', .int .i64 (tK (numsZ l)), .int .i64 (tE (numsZ l))]) ∧ Rd w' A' (tL (numsZ l)).length c' (vals .i64 (tL (numsZ l))) ∧ Below w.heap.size w w' :=
  (refGetNums_any A n c l w hrd hb hn).mono fun e w' ⟨h1, h2⟩ => by
    obtain ⟨A', c', h3, h4⟩ := nums_flat h1
    exact ⟨A', c', h3, h4, h2⟩
end
end Go.Proofs.Ytbajdehcomheaaa
