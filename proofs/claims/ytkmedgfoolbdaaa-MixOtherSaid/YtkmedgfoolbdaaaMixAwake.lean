/- Layer 6: the chapter's examples, as each law asks them; and answers named ahead. -/
import Derived.Test.YtkmedgfoolbdaaaMixThen
import Derived.Test.YtkmedgfoolbdaaaMixBack
import Derived.Test.YtkmedgfoolbdaaaLaw
import Derived.Lib.SlBytesConst
namespace Go.Proofs.Ytkmedgfoolbdaaa
set_option maxRecDepth 100000
open Go.RowKit

theorem mixOf_is {n r : BitVec 64} (h : ofW n = r) {a b : Int} (ha : wd n = a) (hb : wd r = b) (w : World) :
    Calls Try.prog 9 #[.int .u64 a] w fun e w' => e = .returned (.int .u64 b) ∧ Below w.heap.size w w' := by
  subst ha hb h; exact mixOf_any n w
theorem mixBack_is {n r : BitVec 64} (h : backW n = r) {a b : Int} (ha : wd n = a) (hb : wd r = b) (w : World) :
    Calls Try.prog 11 #[.int .u64 a] w fun e w' => e = .returned (.int .u64 b) ∧ Below w.heap.size w w' := by
  subst ha hb h; exact mixBack_any n w
theorem mixThen_is {c r : BitVec 64} {A : Option Addr} {n d : Nat} {l : List Int} {w : World} (h : thenW c l = r) {a b : Int} (ha : wd c = a) (hb : wd r = b) (hr : Rd w A n d (vals .u8 l)) (hu : Bytes l) :
    Calls Try.prog 13 #[.int .u64 a, .slice A n d] w fun e w' => e = .returned (.int .u64 b) ∧ Below w.heap.size w w' := by
  subst ha hb h; exact mixThen_any c A n d l w hr hu
theorem mixSum_is {r : BitVec 64} {A : Option Addr} {n d : Nat} {l : List Int} {w : World} (h : sumW l = r) {b : Int} (hb : wd r = b) (hr : Rd w A n d (vals .u8 l)) (hu : Bytes l) :
    Calls Try.prog 15 #[.slice A n d] w fun e w' => e = .returned (.int .u64 b) ∧ Below w.heap.size w w' := by
  subst hb h; exact mixSum_any A n d l w hr hu
theorem refMixOf_is {n r : BitVec 64} (h : ofW n = r) {a b : Int} (ha : wd n = a) (hb : wd r = b) (w : World) :
    Calls Try.prog 10 #[.int .u64 a] w fun e w' => e = .returned (.int .u64 b) ∧ Below w.heap.size w w' := by
  subst ha hb h; exact (refMixOf_any n w).mono fun e w' ⟨h1, h2⟩ => ⟨h1, by subst h2; exact Below.refl _ _⟩
theorem refMixBack_is {n r : BitVec 64} (h : backW n = r) {a b : Int} (ha : wd n = a) (hb : wd r = b) (w : World) :
    Calls Try.prog 12 #[.int .u64 a] w fun e w' => e = .returned (.int .u64 b) ∧ Below w.heap.size w w' := by
  subst ha hb h; exact (refMixBack_any n w).mono fun e w' ⟨h1, h2⟩ => ⟨h1, by subst h2; exact Below.refl _ _⟩
theorem refMixThen_is {c r : BitVec 64} {A : Option Addr} {n d : Nat} {l : List Int} {w : World} (h : thenW c l = r) {a b : Int} (ha : wd c = a) (hb : wd r = b) (hr : Rd w A n d (vals .u8 l)) (hu : Bytes l) :
    Calls Try.prog 14 #[.int .u64 a, .slice A n d] w fun e w' => e = .returned (.int .u64 b) ∧ Below w.heap.size w w' := by
  subst ha hb h; exact (refMixThen_any c A n d l w hr hu).mono fun e w' ⟨h1, h2⟩ => ⟨h1, by subst h2; exact Below.refl _ _⟩
theorem refMixSum_is {r : BitVec 64} {A : Option Addr} {n d : Nat} {l : List Int} {w : World} (h : sumW l = r) {b : Int} (hb : wd r = b) (hr : Rd w A n d (vals .u8 l)) (hu : Bytes l) :
    Calls Try.prog 16 #[.slice A n d] w fun e w' => e = .returned (.int .u64 b) ∧ Below w.heap.size w w' := by
  subst hb h; exact (refMixSum_any A n d l w hr hu).mono fun e w' ⟨h1, h2⟩ => ⟨h1, by subst h2; exact Below.refl _ _⟩

theorem wf_u64r {x : Int} (h : (Lit.int .u64 x).wf = true) : 0 ≤ x ∧ x ≤ 18446744073709551615 := by
  simp [Lit.wf, IntKind.min, IntKind.max, IntKind.signed, IntKind.bits] at h; omega
/-- a number that came in, as a word -/
theorem word_of {z : Int} (h0 : 0 ≤ z) (h1 : z ≤ 18446744073709551615) : ∃ x : BitVec 64, Hid (wd x = z) := ⟨_, (wd_of z h0 h1).symm⟩
theorem wd_ne {x y : BitVec 64} {a b : Int} (h : ¬ x = y) (ha : wd x = a) (hb : wd y = b) : (a == b) = false := by
  subst ha hb; simpa [wd_inj] using h
theorem Try.mixByte : (Try.prog.info? 5).map (fun i => (i.zero, i.size, i.bytes)) = some (some (.int .u8 0), 1, 1) := by kernel_rfl
theorem bytes_of {l : List Int} (h : ∀ x ∈ l, (Lit.int .u8 x).wf = true) : Bytes l := fun x hx => by
  have := h x hx
  simp [Lit.wf, IntKind.min, IntKind.max, IntKind.signed, IntKind.bits] at this
  omega
theorem bytes_a : Bytes [97] := by intro x hx; simp at hx; omega
theorem bytes_ab : Bytes [97, 98] := by intro x hx; simp at hx; omega
theorem bytes_nil : Bytes [] := by intro x hx; simp at hx

/-- a row of a constant text's bytes: the run-time marks it behind its last cell -/
theorem rd_marked (w : World) (vs : List Value) (e : TypeId) (fr : Nat × Nat) {n : Nat} (h : vs.length = n) (hn : n ≤ 4294967296) : Rd (w.alloc (.cells vs.toArray e fr)) (some ⟨w.heap.size, 0, none⟩) n n vs := by
  refine ⟨h, Nat.le_refl _, by simp only [maxLen]; omega, fun _ => ⟨w.heap.size, 0, rfl, by simp, fun j hj => ?_⟩⟩
  have := cell_of_row _ w.heap.size (0 + j) _ e fr (heap_alloc_new w (.cells vs.toArray e fr))
  rw [this, Nat.zero_add, List.getElem?_toArray, List.getElem?_eq_getElem hj]

set_option maxHeartbeats 3200000 in
theorem mixAwake_any (w : World) : Calls Try.prog 8 #[] w fun e w' => e = .returned (.bool true) ∧ Below w.heap.size w w' := by
  have hc1 := fun W => Lib.run_convert_bytes_const (P := Try.prog) W 26 5 #[.int .u8 97] 1 1 Try.underlying26 Try.underlying5
  have hc2 := fun W => Lib.run_convert_bytes_const (P := Try.prog) W 26 5 #[.int .u8 97, .int .u8 98] 2 2 Try.underlying26 Try.underlying5
  go_enter Try.func8, Try.ntmps8
  go_wp2_with fail
  refine (mixOf_is of_0 (a := 0) (b := 16294208416658607535) (by decide) (by decide) _).mono ?_
  rintro e w1 ⟨rfl, b1⟩
  have B1 := Lib.hid b1
  go_wp2_with fail
  refine (mixOf_is of_1 (a := 1) (b := 10451216379200822465) (by decide) (by decide) _).mono ?_
  rintro e w2 ⟨rfl, b2⟩
  have B2 := Lib.hid (below_then B1.out b2)
  go_wp2_with fail
  refine (mixBack_is back_0 (a := 16294208416658607535) (b := 0) (by decide) (by decide) _).mono ?_
  rintro e w3 ⟨rfl, b3⟩
  have B3 := Lib.hid (below_then B2.out b3)
  go_wp2_with fail
  refine (mixSum_is sum_a (b := 1303865553363498507) (by decide) (rd_marked w3 (vals .u8 [97]) 5 (1, 2) rfl (by decide)) bytes_a).mono ?_
  rintro e w4 ⟨rfl, b4⟩
  have B4 := Lib.hid (below_then (below_new B3.out _) b4)
  go_wp2_with fail
  refine (mixSum_is sum_ab (b := 14337718687949505752) (by decide) (rd_marked w4 (vals .u8 [97, 98]) 5 (2, 3) rfl (by decide)) bytes_ab).mono ?_
  rintro e w5 ⟨rfl, b5⟩
  have B5 := Lib.hid (below_then (below_new B4.out _) b5)
  go_wp2
  go_ret
  exact ⟨rfl, B5.out⟩
end Go.Proofs.Ytkmedgfoolbdaaa
