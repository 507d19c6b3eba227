/- Layer 3: the row with whose bytes a slice begins: the code. -/
import Derived.Test.YtijhcoidhlmecaaRowBytes
import Derived.Test.YtijhcoidhlmecaaValGetMath
import Derived.Laws.MakeOwn
namespace Go.Proofs.Ytijhcoidhlmecaa
set_option maxRecDepth 100000
open Go.RowKit

/-- how many bytes the value has, with whose bytes l begins -/
def hL (l : List Int) : Nat := (1 + hM l).toNat
def hV (l : List Int) : V3 := ⟨hK l, hN l, hS l⟩
/-- so many values, one behind the other, and how many bytes they have -/
def getsZ : Nat → List Int → Option (List V3 × Nat)
  | 0, _ => some ([], 0)
  | k + 1, l => if getOk l = true then (getsZ k (l.drop (hL l))).map (fun p => (hV l :: p.1, hL l + p.2)) else none
def rowGetZ (l : List Int) : Option (List V3 × Nat) :=
  match getZ l with
  | some (n, k) => if 0 ≤ n then (getsZ n.toNat (l.drop k)).map (fun p => (p.1, k + p.2)) else none
  | none => none

theorem hL_is {l : List Int} (hb : ∀ x ∈ l, 0 ≤ x ∧ x ≤ 255) (h : getOk l = true) :
    1 + hM l = (hL l : Int) ∧ 1 ≤ hL l ∧ hL l ≤ l.length ∧ bytesV (hV l) = l.take (hL l) ∧ (hV l).right = true ∧ (hS l).size ≤ l.length := by
  obtain ⟨m, h1, h2, h3, h4, h5, _, _, h8⟩ := got_bytes hb h
  have e : hL l = m := by unfold hL; omega
  rw [e]
  exact ⟨h1, h2, h3, h4, h5, h8⟩

/-- b[m:] -/
theorem run_from {A : Option Addr} {n c m : Nat} (h : m ≤ n) (W : World) : (Instr.slice 35 (.slice A n c) (some (.int .i64 m)) none none).run Try.prog W =
    .ok (.slice (if c = m then A else A.map (·.add m)) (n - m) (c - m)) W := by
  have hz : (sizeOf (Try.prog.elem 35)).run Try.prog W = .ok 1 W := by kernel_rfl
  have ht : Try.prog.underlying 35 = some (.slice (Try.prog.elem 35)) := by kernel_rfl
  rw [run_slice_l (P := Try.prog) (w := W) (t := 35) (a := A) (len := n) (cap := c) (ht := ht) (kl := .i64) (l := m) (h0 := by omega) (h1 := by omega), hz]
  simp [Result.andThen, sliced]

theorem from_at {A : Option Addr} {n c m : Nat} {l : List Int} {w : World} (h : Rd w A n c (vals .u8 l)) (hm : m ≤ n) :
    ∃ A1, Hid (Rd w A1 (n - m) (c - m) (vals .u8 (l.drop m))) ∧ ∀ W, (Instr.slice 35 (.slice A n c) (some (.int .i64 m)) none none).run Try.prog W = .ok (.slice A1 (n - m) (c - m)) W := by
  refine ⟨_, ?_, fun W => run_from hm W⟩
  have := h.cut hm
  rw [vals, List.map_drop]
  exact this

/-- what value.Get tells, of a value that there is and of none -/
theorem valGet_yes {A : Option Addr} {n c : Nat} {l : List Int} {w : World} (hrd : Rd w A n c (vals .u8 l)) (hb : ∀ x ∈ l, 0 ≤ x ∧ x ≤ 255) (hn : n ≤ 4294967296) (h : getOk l = true) :
    Calls Try.prog 38 #[.slice A n c] w fun e w' => e = .returned (.tuple #[(hV l).agg, .int .i64 (hL l : Int), .int .i64 0]) ∧ Below w.heap.size w w' := by
  have := valGet_any A n c l w hrd hb hn
  obtain ⟨e1, e2, e3, e4, e5⟩ := gv_some h
  rw [e1, e2, e3, e4, e5, (hL_is hb h).1] at this
  exact this
theorem valGet_no {A : Option Addr} {n c : Nat} {l : List Int} {w : World} (hrd : Rd w A n c (vals .u8 l)) (hb : ∀ x ∈ l, 0 ≤ x ∧ x ≤ 255) (hn : n ≤ 4294967296) (h : getOk l = false) :
    Calls Try.prog 38 #[.slice A n c] w fun e w' => e = .returned (.tuple #[.agg #[.int .i64 0, .int .i64 0, .string ⟨#[]⟩], .int .i64 0, .int .i64 3]) ∧ Below w.heap.size w w' := by
  have := valGet_any A n c l w hrd hb hn
  obtain ⟨e1, e2, e3, e4, e5⟩ := gv_none h
  rw [e1, e2, e3, e4, e5] at this
  exact this

set_option maxHeartbeats 1600000 in
theorem allThere_any (A : Option Addr) (n c k : Nat) (l : List Int) (w : World) (hrd : Rd w A n c (vals .u8 l)) (hb : ∀ x ∈ l, 0 ≤ x ∧ x ≤ 255) (hn : n ≤ 4294967296) (hk : (k : Int) ≤ 9223372036854775807) :
    Calls Try.prog 37 #[.slice A n c, .int .i64 k] w fun e w' => e = .returned (.bool (getsZ k l).isSome) ∧ Below w.heap.size w w' := by
  have HRD := Lib.hid hrd; have HB := Lib.hid hb
  clear hrd hb
  go_enter Try.func37, Try.ntmps37
  go_wp2_with fail
  go_loopw [0, 9] (fun s i wr => ∃ (j : Nat) (A' : Option Addr) (n' c' : Nat) (l' : List Int), j ≤ k ∧ i = .int .i64 j ∧ s = .slice A' n' c' ∧ Hid (Rd w A' n' c' (vals .u8 l')) ∧ Hid (∀ x ∈ l', 0 ≤ x ∧ x ≤ 255) ∧ n' ≤ 4294967296 ∧ Hid ((getsZ k l).isSome = (getsZ (k - j) l').isSome) ∧ Below w.heap.size w wr) (fun _ i _ => k - (intOf i).toNat)
  case atStart => exact ⟨0, A, n, c, l, Nat.zero_le _, rfl, rfl, HRD, HB, hn, rfl, Below.refl _ _⟩
  case round =>
    obtain ⟨j, A', n', c', l', hj, rfl, rfl, HR, HB', hn', hall, hbel⟩ := hrel
    by_cases hlt : j < k
    · have hki : (j : Int) < k := by omega
      have hlen : l'.length = n' := by simpa using HR.out.len
      cases hg : getOk l' with
      | true =>
        have hm := hL_is HB'.out hg
        obtain ⟨m, x, hm1, hm2, P, hn2⟩ : ∃ (m : Nat) (x : V3), m ≤ n' ∧ Hid (hL l' = m) ∧ Hid (∀ W, Below w.heap.size w W → Calls Try.prog 38 #[.slice A' n' c'] W fun e W' => e = .returned (.tuple #[x.agg, .int .i64 (m : Int), .int .i64 0]) ∧ Below W.heap.size W W') ∧ Hid ((getsZ (k - j) l').isSome = (getsZ (k - (j + 1)) (l'.drop m)).isSome) := by
          refine ⟨hL l', hV l', by omega, Lib.hid rfl, Lib.hid fun W hW => valGet_yes (HR.out.below hW) HB'.out hn' hg, ?_⟩
          show _ = _
          rw [show k - j = (k - (j + 1)) + 1 by omega, getsZ, if_pos hg]
          simp
        obtain ⟨A1, HS, hsl⟩ := from_at HR.out hm1
        have HB2 : Hid (∀ x ∈ l'.drop m, 0 ≤ x ∧ x ≤ 255) := Lib.hid fun x hx => HB'.out x (List.mem_of_mem_drop hx)
        have hcap := HR.out.cap
        clear hm hg hlen
        go_wp2_with fail
        refine (P.out _ hbel).mono ?_
        rintro e w2 ⟨rfl, b2⟩
        have B2 := below_new (below_then hbel b2) (.cells #[.int .i64 x.k, .int .i64 x.n, .string x.s] 44)
        go_wp2
        exact ⟨⟨j + 1, A1, n' - m, c' - m, l'.drop m, by omega, by go_num, rfl, HS, HB2, by omega, by show _ = _; rw [hall.out, hn2.out], B2⟩, by simp [intOf]; omega⟩
      | false =>
        have hN : Hid ((getsZ k l).isSome = false) := by
          show _ = _
          rw [hall.out, show k - j = (k - (j + 1)) + 1 by omega, getsZ, if_neg (by rw [hg]; decide)]; rfl
        have P : Hid (∀ W, Below w.heap.size w W → Calls Try.prog 38 #[.slice A' n' c'] W fun e W' => e = .returned (.tuple #[.agg #[.int .i64 0, .int .i64 0, .string ⟨#[]⟩], .int .i64 0, .int .i64 3]) ∧ Below W.heap.size W W') :=
          Lib.hid fun W hW => valGet_no (HR.out.below hW) HB'.out hn' hg
        clear hg hlen
        go_wp2_with fail
        refine (P.out _ hbel).mono ?_
        rintro e w2 ⟨rfl, b2⟩
        have B2 := below_new (below_then hbel b2) (.cells #[.int .i64 0, .int .i64 0, .string ⟨#[]⟩] 44)
        go_wp2
        go_ret
        exact ⟨ret_bool hN.out.symm, B2⟩
    · have hN : Hid ((getsZ k l).isSome = true) := by
        show _ = _
        rw [hall.out, show k - j = 0 by omega]; rfl
      go_wp2
      go_ret
      exact ⟨ret_bool hN.out.symm, hbel⟩
end Go.Proofs.Ytijhcoidhlmecaa
