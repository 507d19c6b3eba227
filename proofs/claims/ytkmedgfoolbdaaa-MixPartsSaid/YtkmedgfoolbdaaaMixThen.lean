/- Layer 6: bytes that are mixed in, and their sum: the code. -/
import Derived.Test.YtkmedgfoolbdaaaMixOf
import Derived.Test.YtkmedgfoolbdaaaMixRef
import Derived.Test.YtkmedgfoolbdaaaMem2
namespace Go.Proofs.Ytkmedgfoolbdaaa
set_option maxRecDepth 100000
open Go.RowKit

theorem drop_one {l : List Int} {k : Nat} {x : Int} (h : l[k]? = some x) : l.drop k = x :: l.drop (k + 1) := by
  obtain ⟨hk, rfl⟩ := List.getElem?_eq_some_iff.1 h
  exact (List.drop_eq_getElem_cons hk)
theorem thenW_cons (c : BitVec 64) (x : Int) (l : List Int) : thenW c (x :: l) = thenW (ofW (c ^^^ byteW x)) l := rfl
theorem thenW_nil (c : BitVec 64) : thenW c [] = c := rfl
theorem wd_xorl (x : BitVec 64) (z : Int) (h0 : 0 ≤ z) (h1 : z ≤ 18446744073709551615) : bits .xor .u64 (wd x) z = wd (x ^^^ byteW z) := by
  have := wd_xor x (byteW z)
  rwa [wd_byte z h0 h1] at this

theorem mixInto8_any (c : BitVec 64) (x : Int) (h0 : 0 ≤ x) (h1 : x ≤ 255) (w : World) :
    Calls Try.prog 20 #[.int .u64 (wd c), .int .u8 x] w fun e w' => e = .returned (.int .u64 (wd (ofW (c ^^^ byteW x)))) ∧ Below w.heap.size w w' := by
  have q0 : IntKind.u64.wrap x = x := by rw [IntKind.wrap_u64]; omega
  have q1 := wd_xorl c x h0 (by omega)
  obtain ⟨y, hy⟩ : ∃ y, Hid (c ^^^ byteW x = y) := ⟨_, rfl⟩
  rw [hy.out] at q1 ⊢
  have P := Lib.hid (mixOf_any y w)
  go_enter Try.func20, Try.ntmps20
  go_wp2_with fail
  refine P.out.mono ?_
  rintro e w1 ⟨rfl, b1⟩
  go_wp2
  go_ret
  exact ⟨rfl, b1⟩
theorem mixIntoN_any (c : BitVec 64) (n : Nat) (h1 : n ≤ 9223372036854775807) (w : World) :
    Calls Try.prog 21 #[.int .u64 (wd c), .int .i64 (n : Int)] w fun e w' => e = .returned (.int .u64 (wd (ofW (c ^^^ BitVec.ofNat 64 n)))) ∧ Below w.heap.size w w' := by
  have q0 : IntKind.u64.wrap (n : Int) = (n : Int) := by rw [IntKind.wrap_u64]; omega
  have q1 := wd_xorl c n (by omega) (by omega)
  rw [show byteW (n : Int) = BitVec.ofNat 64 n from rfl] at q1
  obtain ⟨y, hy⟩ : ∃ y, Hid (c ^^^ BitVec.ofNat 64 n = y) := ⟨_, rfl⟩
  rw [hy.out] at q1 ⊢
  have P := Lib.hid (mixOf_any y w)
  go_enter Try.func21, Try.ntmps21
  go_wp2_with fail
  refine P.out.mono ?_
  rintro e w1 ⟨rfl, b1⟩
  go_wp2
  go_ret
  exact ⟨rfl, b1⟩

def Bytes (l : List Int) : Prop := ∀ x ∈ l, 0 ≤ x ∧ x ≤ 255

set_option maxHeartbeats 1600000 in
theorem mixThen_any (c : BitVec 64) (A : Option Addr) (n d : Nat) (l : List Int) (w : World) (h : Rd w A n d (vals .u8 l)) (hu : Bytes l) :
    Calls Try.prog 13 #[.int .u64 (wd c), .slice A n d] w fun e w' => e = .returned (.int .u64 (wd (thenW c l))) ∧ Below w.heap.size w w' := by
  have hle := h.le
  obtain ⟨r, hr⟩ : ∃ r, Hid (thenW c l = r) := ⟨_, rfl⟩
  have hl := Lib.hid (show l.length = n by simpa using h.len)
  have HU := Lib.hid hu
  have HR := Lib.hid h
  have BR := Lib.hid (Below.refl w.heap.size w)
  have hr0 := Lib.hid (show thenW c (l.drop 0) = r from hr.out)
  rw [hr.out]
  clear h hu hr
  go_enter Try.func13, Try.ntmps13
  go_wp2_with fail
  go_loopw [0, 9] (fun z i wr => ∃ (k : Nat) (c1 : BitVec 64), i = .int .i64 k ∧ k ≤ n ∧ z = .int .u64 (wd c1) ∧ Hid (thenW c1 (l.drop k) = r) ∧ Hid (Below w.heap.size w wr)) (fun _ i _ => n - (intOf i).toNat)
  case atStart => exact ⟨0, c, rfl, Nat.zero_le _, rfl, hr0, BR⟩
  case round =>
    obtain ⟨k, c1, rfl, hk, rfl, hc, hw⟩ := hrel
    by_cases hlt : k < n
    · have hlz : (k : Int) < (n : Int) := by omega
      have q1 : IntKind.i64.wrap ((k : Int) + 1) = (k : Int) + 1 := wrapI_is (by omega)
      obtain ⟨b, o, u, rfl, _, hv, hcell⟩ := (HR.out.below hw.out).at_ hlt
      obtain ⟨x, hx, rfl⟩ := vals_at hv
      obtain ⟨x0, x1⟩ := HU.out x (List.mem_of_getElem? hx)
      have P := Lib.hid (mixInto8_any c1 x x0 x1 wr)
      have hc2 := Lib.hid (show thenW (ofW (c1 ^^^ byteW x)) (l.drop (k + 1)) = r by rw [← hc.out, drop_one hx]; rfl)
      obtain ⟨c2, hc2e⟩ : ∃ c2, Hid (ofW (c1 ^^^ byteW x) = c2) := ⟨_, rfl⟩
      rw [hc2e.out] at P hc2
      clear hv hx x0 x1 hc2e
      go_wp2_with fail
      refine P.out.mono ?_
      rintro e w1 ⟨rfl, b1⟩
      have B1 := Lib.hid (below_then hw.out b1)
      clear b1
      go_wp2
      exact ⟨⟨k + 1, c2, by go_num, by omega, rfl, hc2, B1⟩, by simp [intOf]; omega⟩
    · have hlz : ¬ (k : Int) < (n : Int) := by omega
      obtain rfl : c1 = r := by rw [← hc.out, List.drop_eq_nil_of_le (by have := hl.out; omega)]; rfl
      go_wp2
      go_ret
      exact ⟨rfl, hw.out⟩

set_option maxHeartbeats 1600000 in
theorem refMixThen_any (c : BitVec 64) (A : Option Addr) (n d : Nat) (l : List Int) (w : World) (h : Rd w A n d (vals .u8 l)) (hu : Bytes l) :
    Calls Try.prog 14 #[.int .u64 (wd c), .slice A n d] w fun e w' => e = .returned (.int .u64 (wd (thenW c l))) ∧ w' = w := by
  have hle := h.le
  obtain ⟨r, hr⟩ : ∃ r, Hid (thenW c l = r) := ⟨_, rfl⟩
  have hl := Lib.hid (show l.length = n by simpa using h.len)
  have HU := Lib.hid hu
  have HR := Lib.hid h
  have hr0 := Lib.hid (show thenW c (l.drop 0) = r from hr.out)
  rw [hr.out]
  clear h hu hr
  go_enter Try.func14, Try.ntmps14
  go_wp2_with fail
  go_loopw [0, 5] (fun z i wr => ∃ (k : Nat) (c1 : BitVec 64), i = .int .i64 k ∧ k ≤ n ∧ z = .int .u64 (wd c1) ∧ Hid (thenW c1 (l.drop k) = r) ∧ wr = w) (fun _ i _ => n - (intOf i).toNat)
  case atStart => exact ⟨0, c, rfl, Nat.zero_le _, rfl, hr0, by trivial⟩
  case round =>
    obtain ⟨k, c1, rfl, hk, rfl, hc, hw⟩ := hrel
    subst hw
    by_cases hlt : k < n
    · have hlz : (k : Int) < (n : Int) := by omega
      have q1 : IntKind.i64.wrap ((k : Int) + 1) = (k : Int) + 1 := wrapI_is (by omega)
      obtain ⟨b, o, u, rfl, _, hv, hcell⟩ := HR.out.at_ hlt
      obtain ⟨x, hx, rfl⟩ := vals_at hv
      obtain ⟨x0, x1⟩ := HU.out x (List.mem_of_getElem? hx)
      have q0 : IntKind.u64.wrap x = x := by rw [IntKind.wrap_u64]; omega
      have P := Lib.hid (show Calls Try.prog 18 #[.int .u64 (wd c1), .int .u64 x] wr fun e w' => e = .returned (.int .u64 (wd (c1 ^^^ byteW x))) ∧ w' = wr by
        have := refMixXor_any c1 (byteW x) wr
        rwa [wd_byte x x0 (by omega)] at this)
      have P2 := Lib.hid (refMixOf_any (c1 ^^^ byteW x) wr)
      have hc2 := Lib.hid (show thenW (ofW (c1 ^^^ byteW x)) (l.drop (k + 1)) = r by rw [← hc.out, drop_one hx]; rfl)
      obtain ⟨c2, hc2e⟩ : ∃ c2, Hid (ofW (c1 ^^^ byteW x) = c2) := ⟨_, rfl⟩
      rw [hc2e.out] at P2 hc2
      obtain ⟨c3, hc3e⟩ : ∃ c3, Hid (c1 ^^^ byteW x = c3) := ⟨_, rfl⟩
      rw [hc3e.out] at P P2
      clear hv hx x0 x1 hc2e hc3e
      go_wp2_with fail
      refine P.out.mono ?_
      rintro e w1 ⟨rfl, rfl⟩
      go_wp2_with fail
      refine P2.out.mono ?_
      rintro e w2 ⟨rfl, rfl⟩
      go_wp2
      exact ⟨⟨k + 1, c2, by go_num, by omega, rfl, hc2, by trivial⟩, by simp [intOf]; omega⟩
    · have hlz : ¬ (k : Int) < (n : Int) := by omega
      obtain rfl : c1 = r := by rw [← hc.out, List.drop_eq_nil_of_le (by have := hl.out; omega)]; rfl
      go_wp2
      go_ret
      exact ⟨rfl, rfl⟩

theorem mixSum_any (A : Option Addr) (n d : Nat) (l : List Int) (w : World) (h : Rd w A n d (vals .u8 l)) (hu : Bytes l) :
    Calls Try.prog 15 #[.slice A n d] w fun e w' => e = .returned (.int .u64 (wd (sumW l))) ∧ Below w.heap.size w w' := by
  have hle := h.le
  have hl : l.length = n := by simpa using h.len
  have P := Lib.hid (mixThen_any 0#64 A n d l w h hu)
  obtain ⟨t, ht⟩ : ∃ t, Hid (thenW 0#64 l = t) := ⟨_, rfl⟩
  have e : sumW l = ofW (t ^^^ BitVec.ofNat 64 n) := by rw [← ht.out, ← hl]; rfl
  rw [e]
  rw [ht.out, show wd 0#64 = 0 from rfl] at P
  have P2 := Lib.hid (fun W => mixIntoN_any t n hle W)
  clear h hu hl e ht
  go_enter Try.func15, Try.ntmps15
  go_wp2_with fail
  refine P.out.mono ?_
  rintro e w1 ⟨rfl, b1⟩
  go_wp2_with fail
  refine (P2.out _).mono ?_
  rintro e w2 ⟨rfl, b2⟩
  go_wp2
  go_ret
  exact ⟨rfl, below_then b1 b2⟩
theorem refMixSum_any (A : Option Addr) (n d : Nat) (l : List Int) (w : World) (h : Rd w A n d (vals .u8 l)) (hu : Bytes l) :
    Calls Try.prog 16 #[.slice A n d] w fun e w' => e = .returned (.int .u64 (wd (sumW l))) ∧ w' = w := by
  have hle := h.le
  have hl : l.length = n := by simpa using h.len
  have P := Lib.hid (refMixThen_any 0#64 A n d l w h hu)
  obtain ⟨t, ht⟩ : ∃ t, Hid (thenW 0#64 l = t) := ⟨_, rfl⟩
  have e : sumW l = ofW (t ^^^ byteW (n : Int)) := by rw [← ht.out, ← hl]; rfl
  rw [e]
  rw [ht.out, show wd 0#64 = 0 from rfl] at P
  have q0 : IntKind.u64.wrap (n : Int) = (n : Int) := by rw [IntKind.wrap_u64]; omega
  have P2 := Lib.hid (refMixXor_any t (byteW (n : Int)) w)
  rw [wd_byte (n : Int) (by omega) (by omega)] at P2
  obtain ⟨s, hs⟩ : ∃ s, Hid (t ^^^ byteW (n : Int) = s) := ⟨_, rfl⟩
  rw [hs.out] at P2 ⊢
  have P3 := Lib.hid (refMixOf_any s w)
  clear h hu hl e ht hs
  go_enter Try.func16, Try.ntmps16
  go_wp2_with fail
  refine P.out.mono ?_
  rintro e w1 ⟨rfl, rfl⟩
  go_wp2_with fail
  refine P2.out.mono ?_
  rintro e w2 ⟨rfl, rfl⟩
  go_wp2_with fail
  refine P3.out.mono ?_
  rintro e w3 ⟨rfl, rfl⟩
  go_wp2
  go_ret
  exact ⟨rfl, rfl⟩
end Go.Proofs.Ytkmedgfoolbdaaa
