/- Layer 3: one element out of a row, or out of columns: r[k:k+1]. -/
import Derived.Test.YtijhcoidhlmecaaRowRight
namespace Go.Proofs.Ytijhcoidhlmecaa
set_option maxRecDepth 100000
open Go.RowKit

theorem RdG.one {α : Type} {enc : α → List Value} {sz : Nat} {w : World} {A : Option Addr} {n c : Nat} {l : List α} (h : RdG enc sz w A n c l) {k : Nat} (hk : k < n) {x : α} (hx : l[k]? = some x) :
    RdG enc sz w (A.map (·.add (k * sz))) 1 (c - k) [x] := by
  obtain ⟨hl, h1, h2, hc⟩ := h
  obtain ⟨b, o, rfl, hb, hcell⟩ := hc (by omega)
  refine ⟨rfl, by omega, by simp only [maxLen] at *; omega, fun _ => ⟨b, o + k * sz, ?_, hb, fun j hj i v hv => ?_⟩⟩
  · simp only [Option.map_some, Addr.add]
    by_cases h0 : k * sz = 0 <;> simp [h0]
  · have hj0 : j = 0 := by simpa using hj
    subst hj0
    have hkl : k < l.length := by omega
    have hxe : l[k] = x := by rw [List.getElem?_eq_getElem hkl] at hx; exact Option.some.inj hx
    have := hcell k hkl i v (by rw [hxe]; exact hv)
    rw [← this]
    congr 2
    simp

theorem run_one_col {A : Option Addr} {n c k : Nat} (hk : k < n) (hc : n ≤ c) (W : World) : (Instr.slice 22 (.slice A n c) (some (.int .i64 k)) (some (.int .i64 (k + 1))) none).run Try.prog W =
    .ok (.slice (A.map (·.add (k * 4))) 1 (c - k)) W := by
  have hz : (sizeOf (Try.prog.elem 22)).run Try.prog W = .ok 4 W := by kernel_rfl
  have ht : Try.prog.underlying 22 = some (.slice (Try.prog.elem 22)) := by kernel_rfl
  rw [run_slice_lh (P := Try.prog) (w := W) (t := 22) (a := A) (len := n) (cap := c) (ht := ht) (kl := .i64) (kh := .i64) (l := k) (h := k + 1) (h0 := by omega) (h1 := by omega) (h2 := by omega), hz]
  simp [Result.andThen, sliced]
  try omega
theorem run_one_row {A : Option Addr} {n c k : Nat} (hk : k < n) (hc : n ≤ c) (W : World) : (Instr.slice 24 (.slice A n c) (some (.int .i64 k)) (some (.int .i64 (k + 1))) none).run Try.prog W =
    .ok (.slice (A.map (·.add (k * 3))) 1 (c - k)) W := by
  have hz : (sizeOf (Try.prog.elem 24)).run Try.prog W = .ok 3 W := by kernel_rfl
  have ht : Try.prog.underlying 24 = some (.slice (Try.prog.elem 24)) := by kernel_rfl
  rw [run_slice_lh (P := Try.prog) (w := W) (t := 24) (a := A) (len := n) (cap := c) (ht := ht) (kl := .i64) (kh := .i64) (l := k) (h := k + 1) (h0 := by omega) (h1 := by omega) (h2 := by omega), hz]
  simp [Result.andThen, sliced]
  try omega
theorem rowErr_one (c : C4) (v : V3) : rowErr [c] [v] = fitZ c v := by
  have h : rowErr [c] [v] = errZ [c] [v] := if_pos rfl
  rw [h, errZ]
  split
  · rename_i h; rw [h]; rfl
  · rfl
end Go.Proofs.Ytijhcoidhlmecaa
