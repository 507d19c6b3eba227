/- The next number of a row: the closure of package code's GetNums. -/
import Derived.Test.YtbajdehcomheaaaRows
import Derived.Test.YtbajdehcomheaaaMem
import Derived.Test.YtbajdehcomheaaaCodeGetText
namespace Go.Proofs.Ytbajdehcomheaaa
open Go.RowKit

/-- numbers, one behind the other, from a place on -/
def numsI : Nat → List Int → Nat → List Int → Option (List Int × Nat)
  | 0, acc, at_, _ => some (acc, at_)
  | k + 1, acc, at_, l =>
    match getZ (l.drop at_) with
    | none => none
    | some (x, u) => numsI k (acc ++ [x]) (at_ + u) l
def numsZ (l : List Int) : Option (List Int × Nat) :=
  match getZ l with
  | some (n, k) => if 0 ≤ n then numsI n.toNat [] k l else none
  | none => none

/-- bytes cut at the front, whichever way the cut is told -/
theorem Rd.cut8 {w : World} {b o n c : Nat} {l : List Int} (h : Rd w (some ⟨b, o, none⟩) n c (vals .u8 l)) {k : Nat} (hk : k ≤ n) :
    Rd w (if c = k then some ⟨b, o, none⟩ else some ⟨b, o + k, none⟩) (n - k) (c - k) (vals .u8 (l.drop k)) := by
  have h1 := h.cut hk
  rw [vals, List.map_drop]
  have e : (if c = k then some (⟨b, o, none⟩ : Addr) else (some (⟨b, o, none⟩ : Addr)).map (·.add k)) = (if c = k then some ⟨b, o, none⟩ else some ⟨b, o + k, none⟩) := by
    congr 1
    simp only [Option.map_some, Addr.add]
    by_cases h0 : k = 0 <;> simp [h0]
  rw [← e]; exact h1

/-- what the closure hands back -/
def nextV (r : Option (Int × Nat)) : Value :=
  match r with
  | some (x, _) => .tuple #[.int .i64 x, .bool true]
  | none => .tuple #[.int .i64 0, .bool false]
def nextAt (r : Option (Int × Nat)) : Nat :=
  match r with
  | some (_, u) => u
  | none => 0

set_option maxHeartbeats 800000 in
theorem next_any (B0 B1 b o n c k : Nat) (l : List Int) (w : World) (hrd : Rd w (some ⟨b, o, none⟩) n c (vals .u8 l)) (hb : ∀ x ∈ l, 0 ≤ x ∧ x ≤ 255) (hk : k ≤ n)
    (h0 : w.cell? ⟨B0, 0, none⟩ = some (.slice (some ⟨b, o, none⟩) n c)) (h1 : w.cell? ⟨B1, 0, none⟩ = some (.int .i64 k)) (hf : w.frozen? ⟨B1, 0, none⟩ = false) :
    Calls Try.prog 29 #[.pointer (some ⟨B0, 0, none⟩), .pointer (some ⟨B1, 0, none⟩)] w fun e w' => e = .returned (nextV (getZ (l.drop k))) ∧ w' = w.setCell ⟨B1, 0, none⟩ (.int .i64 ((k + nextAt (getZ (l.drop k)) : Nat) : Int)) := by
  have hn := hrd.le
  have hcap := hrd.cap
  have hll : l.length = n := by simpa using hrd.len
  have hsub := hrd.cut8 hk
  have hbd : ∀ x ∈ l.drop k, 0 ≤ x ∧ x ≤ 255 := fun x hx => hb x (List.mem_of_mem_drop hx)
  have HBD := Lib.hid hbd
  have hu : ∀ x u, getZ (l.drop k) = some (x, u) → k + u ≤ n := by
    intro x u h
    have := (getZ_some hbd h).2.2.2.2
    rw [List.length_drop] at this
    omega
  clear hrd hb
  by_cases hck : c = k
  · have hdr : l.drop k = [] := List.drop_of_length_le (by omega)
    have HG : Hid (getZ (l.drop k) = none) := by show _ = _; rw [hdr]; rfl
    subst hck
    clear hsub hu hdr hbd hll
    have HS : Hid (Rd w (some ⟨b, o, none⟩) 0 0 (vals .u8 [])) := Rd.empty_ _ _ (by simp [maxLen])
    have hkc : ((c : Nat) : Int) ≤ (n : Int) := by omega
    have hget := Lib.hid (fun W (h : W = w) => by subst h; exact (get_any _ _ _ _ W HS.out (by simp)).mono (R' := fun e w' => e = .returned (.tuple #[.int .i64 0, .int .i64 0, .int .i64 3]) ∧ W = w') fun e w' ⟨h1, h2⟩ => ⟨by rw [h1]; rfl, h2⟩)
    go_enter Try.func29, Try.ntmps29
    go_wp2_with (go_at_call 15; refine (hget.out _ rfl).mono ?_; rintro e w' ⟨rfl, rfl⟩)
    go_ret2
    exact ⟨by rw [HG.out]; rfl, by rw [HG.out]; rfl⟩
  · rw [if_neg hck] at hsub
    have HS := Lib.hid hsub; clear hsub
    have hkc : ((k : Nat) : Int) ≤ (n : Int) := by omega
    cases hg : getZ (l.drop k) with
    | none =>
      have HG := Lib.hid hg; clear hg hu hbd hll
      have hget := Lib.hid (fun W (h : W = w) => by subst h; exact (get_any _ _ _ _ W HS.out HBD.out).mono (R' := fun e w' => e = .returned (.tuple #[.int .i64 0, .int .i64 0, .int .i64 3]) ∧ W = w') fun e w' ⟨h1, h2⟩ => ⟨by rw [h1, HG.out]; rfl, h2⟩)
      go_enter Try.func29, Try.ntmps29
      go_wp2_with (go_at_call 15; refine (hget.out _ rfl).mono ?_; rintro e w' ⟨rfl, rfl⟩)
      go_ret2
      exact ⟨rfl, rfl⟩
    | some p =>
      obtain ⟨x, u⟩ := p
      have hkn := hu x u hg
      have HG := Lib.hid hg; clear hg hu hbd hll
      have hget := Lib.hid (fun W (h : W = w) => by subst h; exact (get_any _ _ _ _ W HS.out HBD.out).mono (R' := fun e w' => e = .returned (.tuple #[.int .i64 x, .int .i64 u, .int .i64 0]) ∧ W = w') fun e w' ⟨h1, h2⟩ => ⟨by rw [h1, HG.out]; rfl, h2⟩)
      go_enter Try.func29, Try.ntmps29
      go_wp2_with (go_at_call 15; refine (hget.out _ rfl).mono ?_; rintro e w' ⟨rfl, rfl⟩)
      go_ret2
      exact ⟨rfl, rfl⟩

set_option maxHeartbeats 800000 in
theorem next_zero (B0 B1 c : Nat) (A : Option Addr) (w : World) (hc : c ≤ maxLen)
    (h0 : w.cell? ⟨B0, 0, none⟩ = some (.slice A 0 c)) (h1 : w.cell? ⟨B1, 0, none⟩ = some (.int .i64 0)) (hf : w.frozen? ⟨B1, 0, none⟩ = false) :
    Calls Try.prog 29 #[.pointer (some ⟨B0, 0, none⟩), .pointer (some ⟨B1, 0, none⟩)] w fun e w' => e = .returned (.tuple #[.int .i64 0, .bool false]) ∧ w' = w.setCell ⟨B1, 0, none⟩ (.int .i64 0) := by
  have hget : ∀ X, Calls Try.prog 15 #[.slice X 0 c] w fun e w' => e = .returned (.tuple #[.int .i64 0, .int .i64 0, .int .i64 3]) ∧ w = w' :=
    fun X => (get_any X 0 c [] w (Rd.empty_ _ _ hc) (by simp)).mono fun e w' ⟨h1, h2⟩ => ⟨by rw [h1]; rfl, h2⟩
  have HG := Lib.hid hget; clear hget
  cases A with
  | none =>
    go_enter Try.func29, Try.ntmps29
    go_wp2_with (go_at_call 15; refine (HG.out _).mono ?_; rintro e w' ⟨rfl, rfl⟩)
    go_ret2
    exact ⟨rfl, rfl⟩
  | some ad =>
    go_enter Try.func29, Try.ntmps29
    go_wp2_with (go_at_call 15; refine (HG.out _).mono ?_; rintro e w' ⟨rfl, rfl⟩)
    go_ret2
    exact ⟨rfl, rfl⟩
end Go.Proofs.Ytbajdehcomheaaa
