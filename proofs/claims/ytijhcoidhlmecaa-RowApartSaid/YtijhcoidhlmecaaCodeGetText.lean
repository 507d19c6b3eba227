/- The text with which bytes begin: what package code gets, and what its answer gets. -/
import Derived.Test.YtijhcoidhlmecaaRows
import Derived.Test.YtijhcoidhlmecaaMem
import Derived.Test.YtijhcoidhlmecaaCodeRefGet
namespace Go.Proofs.Ytijhcoidhlmecaa
set_option maxRecDepth 100000
open Go.RowKit

theorem get_some {A : Option Addr} {n c : Nat} {l : List Int} {w : World} (hrd : Rd w A n c (vals .u8 l)) (hb : ∀ x ∈ l, 0 ≤ x ∧ x ≤ 255) {z : Int} {k : Nat} (h : getZ l = some (z, k)) :
    Calls Try.prog 36 #[.slice A n c] w fun e w' => e = .returned (.tuple #[.int .i64 z, .int .i64 k, .int .i64 0]) ∧ Below w.heap.size w w' :=
  (get_any A n c l w hrd hb).mono fun e w' ⟨h1, h2⟩ => ⟨by rw [h1, h]; rfl, by rw [← h2]; exact Below.refl _ _⟩
theorem get_none {A : Option Addr} {n c : Nat} {l : List Int} {w : World} (hrd : Rd w A n c (vals .u8 l)) (hb : ∀ x ∈ l, 0 ≤ x ∧ x ≤ 255) (h : getZ l = none) :
    Calls Try.prog 36 #[.slice A n c] w fun e w' => e = .returned (.tuple #[.int .i64 0, .int .i64 0, .int .i64 3]) ∧ Below w.heap.size w w' :=
  (get_any A n c l w hrd hb).mono fun e w' ⟨h1, h2⟩ => ⟨by rw [h1, h]; rfl, by rw [← h2]; exact Below.refl _ _⟩
theorem refGet_some {A : Option Addr} {n c : Nat} {l : List Int} {w : World} (hrd : Rd w A n c (vals .u8 l)) (hb : ∀ x ∈ l, 0 ≤ x ∧ x ≤ 255) {z : Int} {k : Nat} (h : getZ l = some (z, k)) :
    Calls Try.prog 41 #[.slice A n c] w fun e w' => e = .returned (.tuple #[.int .i64 z, .int .i64 k, .int .i64 0]) ∧ Below w.heap.size w w' :=
  (refGet_any A n c l w hrd hb).mono fun e w' ⟨h1, h2⟩ => ⟨by rw [h1, h]; rfl, h2⟩
theorem refGet_none {A : Option Addr} {n c : Nat} {l : List Int} {w : World} (hrd : Rd w A n c (vals .u8 l)) (hb : ∀ x ∈ l, 0 ≤ x ∧ x ≤ 255) (h : getZ l = none) :
    Calls Try.prog 41 #[.slice A n c] w fun e w' => e = .returned (.tuple #[.int .i64 0, .int .i64 0, .int .i64 3]) ∧ Below w.heap.size w w' :=
  (refGet_any A n c l w hrd hb).mono fun e w' ⟨h1, h2⟩ => ⟨by rw [h1, h]; rfl, h2⟩

/-- the text with which bytes begin -/
def textZ (l : List Int) : Option (List Int × Nat) :=
  match getZ l with
  | some (n, k) => if 0 ≤ n ∧ n.toNat + k ≤ l.length then some ((l.drop k).take n.toNat, k + n.toNat) else none
  | none => none
def textV (r : Option (List Int × Nat)) : Value :=
  match r with
  | some (t, k) => .tuple #[.string (textOf t), .int .i64 k, .int .i64 0]
  | none => .tuple #[.string ⟨#[]⟩, .int .i64 0, .int .i64 3]

set_option maxHeartbeats 800000 in
theorem getText_any (A : Option Addr) (n c : Nat) (l : List Int) (w : World) (hrd : Rd w A n c (vals .u8 l)) (hb : ∀ x ∈ l, 0 ≤ x ∧ x ≤ 255) :
    Calls Try.prog 49 #[.slice A n c] w fun e w' => e = .returned (textV (textZ l)) ∧ Below w.heap.size w w' := by
  have hn := hrd.le
  have hll : l.length = n := by simpa using hrd.len
  have hcap := hrd.cap
  have HLL := Lib.hid hll; clear hll
  have HB := Lib.hid hb; clear hb
  have HRD := Lib.hid hrd; clear hrd
  cases hg : getZ l with
  | none =>
    have HNO : Hid (textZ l = none) := by show _ = _; simp [textZ, hg]
    have HG := Lib.hid hg; clear hg
    go_enter Try.func49, Try.ntmps49
    go_wp2_with (go_at_call 36; refine (get_none HRD.out HB.out HG.out).mono ?_; rintro e w' ⟨rfl, hbel⟩)
    go_ret3
    exact ⟨by rw [HNO.out]; rfl, hbel⟩
  | some p =>
    obtain ⟨z, k⟩ := p
    have hgs := getZ_some HB.out hg
    have hz := hgs.1
    have hk0 := hgs.2.2.2.1
    have hkl := hgs.2.2.2.2
    clear hgs
    rw [HLL.out] at hkl
    obtain ⟨hz1, hz2⟩ := hz
    obtain ⟨b, o, _, rfl, _, _, _⟩ := HRD.out.at_ (show 0 < n by omega)
    by_cases hin : 0 ≤ z ∧ z.toNat + k ≤ n
    · obtain ⟨hz0, hzn⟩ := hin
      have HYES : Hid (textZ l = some ((l.drop k).take z.toNat, k + z.toNat)) := by
        show _ = _
        simp only [textZ, hg]
        rw [if_pos ⟨hz0, by rw [HLL.out]; exact hzn⟩]
      have HG := Lib.hid hg; clear hg
      obtain ⟨m, rfl⟩ := Int.eq_ofNat_of_zero_le hz0
      simp only [Int.toNat_natCast] at hzn HYES
      have hsub : ¬ (n : Int) - (k : Int) < (m : Int) := by omega
      have HSL : Hid (Rd w (if c = k then some ⟨b, o, none⟩ else some ⟨b, o + k, none⟩) m (c - k) (vals .u8 ((l.drop k).take m))) := by
        have h1 := HRD.out.cut (k := k) (by omega)
        have h2 := h1.upto (k := m) (m := c - k) (by omega) (by omega) (Nat.le_refl _)
        show Rd _ _ _ _ _
        rw [vals, List.map_take, List.map_drop]
        have e : (if c = k then some (⟨b, o, none⟩ : Addr) else (some (⟨b, o, none⟩ : Addr)).map (·.add k)) = (if c = k then some ⟨b, o, none⟩ else some ⟨b, o + k, none⟩) := by
          congr 1
          simp only [Option.map_some, Addr.add]
          by_cases h0 : k = 0 <;> simp [h0]
        rw [← e]; exact h2
      by_cases hck : c = k
      · obtain rfl : m = 0 := by omega
        subst hck
        clear HSL
        have hy := HYES.out
        simp only [List.take_zero, Nat.add_zero] at hy
        have HY := Lib.hid hy; clear hy HYES
        have hsl : Rd w (some ⟨b, o, none⟩) 0 0 (vals .u8 []) := Rd.empty_ _ _ (by simp [maxLen])
        have HSL := Lib.hid hsl; clear hsl
        go_enter Try.func49, Try.ntmps49
        go_wp2_with (go_at_call 36; refine (get_some HRD.out HB.out HG.out).mono ?_; rintro e w' ⟨rfl, hbel⟩; have hcv := run_toText (P := Try.prog) 35 9 5 Try.underlying35 Try.underlying5 Try.underlying9 (HSL.out.below hbel))
        go_ret3
        exact ⟨by rw [HY.out]; rfl, hbel⟩
      · have hsl := HSL.out
        rw [if_neg hck] at hsl
        have HSL := Lib.hid hsl; clear hsl
        go_enter Try.func49, Try.ntmps49
        go_wp2_with (go_at_call 36; refine (get_some HRD.out HB.out HG.out).mono ?_; rintro e w' ⟨rfl, hbel⟩; have hcv := run_toText (P := Try.prog) 35 9 5 Try.underlying35 Try.underlying5 Try.underlying9 (HSL.out.below hbel))
        go_ret3
        exact ⟨by rw [HYES.out]; rfl, hbel⟩
    · have HNO : Hid (textZ l = none) := by
        show _ = _
        simp only [textZ, hg]
        rw [if_neg (by rw [HLL.out]; exact hin)]
      have HG := Lib.hid hg; clear hg
      by_cases hz0 : 0 ≤ z
      · have hsub : (n : Int) - (k : Int) < z := by omega
        go_enter Try.func49, Try.ntmps49
        go_wp2_with (go_at_call 36; refine (get_some HRD.out HB.out HG.out).mono ?_; rintro e w' ⟨rfl, hbel⟩)
        go_ret3
        exact ⟨by rw [HNO.out]; rfl, hbel⟩
      · go_enter Try.func49, Try.ntmps49
        go_wp2_with (go_at_call 36; refine (get_some HRD.out HB.out HG.out).mono ?_; rintro e w' ⟨rfl, hbel⟩)
        go_ret3
        exact ⟨by rw [HNO.out]; rfl, hbel⟩

set_option maxHeartbeats 800000 in
theorem refGetText_any (A : Option Addr) (n c : Nat) (l : List Int) (w : World) (hrd : Rd w A n c (vals .u8 l)) (hb : ∀ x ∈ l, 0 ≤ x ∧ x ≤ 255) :
    Calls Try.prog 52 #[.slice A n c] w fun e w' => e = .returned (textV (textZ l)) ∧ Below w.heap.size w w' := by
  have hn := hrd.le
  have hll : l.length = n := by simpa using hrd.len
  have hcap := hrd.cap
  have HLL := Lib.hid hll; clear hll
  have HB := Lib.hid hb; clear hb
  have HRD := Lib.hid hrd; clear hrd
  cases hg : getZ l with
  | none =>
    have HNO : Hid (textZ l = none) := by show _ = _; simp [textZ, hg]
    have HG := Lib.hid hg; clear hg
    go_enter Try.func52, Try.ntmps52
    go_wp2_with (go_at_call 41; refine (refGet_none HRD.out HB.out HG.out).mono ?_; rintro e w' ⟨rfl, hbel⟩)
    go_ret3
    exact ⟨by rw [HNO.out]; rfl, hbel⟩
  | some p =>
    obtain ⟨z, k⟩ := p
    have hgs := getZ_some HB.out hg
    have hz := hgs.1
    have hk0 := hgs.2.2.2.1
    have hkl := hgs.2.2.2.2
    clear hgs
    rw [HLL.out] at hkl
    obtain ⟨hz1, hz2⟩ := hz
    obtain ⟨b, o, _, rfl, _, _, _⟩ := HRD.out.at_ (show 0 < n by omega)
    by_cases hin : 0 ≤ z ∧ z.toNat + k ≤ n
    · obtain ⟨hz0, hzn⟩ := hin
      have HYES : Hid (textZ l = some ((l.drop k).take z.toNat, k + z.toNat)) := by
        show _ = _
        simp only [textZ, hg]
        rw [if_pos ⟨hz0, by rw [HLL.out]; exact hzn⟩]
      have HG := Lib.hid hg; clear hg
      obtain ⟨m, rfl⟩ := Int.eq_ofNat_of_zero_le hz0
      simp only [Int.toNat_natCast] at hzn HYES
      have hsub : ¬ (n : Int) - (k : Int) < (m : Int) := by omega
      have HSL : Hid (Rd w (if c = k then some ⟨b, o, none⟩ else some ⟨b, o + k, none⟩) m (c - k) (vals .u8 ((l.drop k).take m))) := by
        have h1 := HRD.out.cut (k := k) (by omega)
        have h2 := h1.upto (k := m) (m := c - k) (by omega) (by omega) (Nat.le_refl _)
        show Rd _ _ _ _ _
        rw [vals, List.map_take, List.map_drop]
        have e : (if c = k then some (⟨b, o, none⟩ : Addr) else (some (⟨b, o, none⟩ : Addr)).map (·.add k)) = (if c = k then some ⟨b, o, none⟩ else some ⟨b, o + k, none⟩) := by
          congr 1
          simp only [Option.map_some, Addr.add]
          by_cases h0 : k = 0 <;> simp [h0]
        rw [← e]; exact h2
      by_cases hck : c = k
      · obtain rfl : m = 0 := by omega
        subst hck
        clear HSL
        have hy := HYES.out
        simp only [List.take_zero, Nat.add_zero] at hy
        have HY := Lib.hid hy; clear hy HYES
        have hsl : Rd w (some ⟨b, o, none⟩) 0 0 (vals .u8 []) := Rd.empty_ _ _ (by simp [maxLen])
        have HSL := Lib.hid hsl; clear hsl
        go_enter Try.func52, Try.ntmps52
        go_wp2_with (go_at_call 41; refine (refGet_some HRD.out HB.out HG.out).mono ?_; rintro e w' ⟨rfl, hbel⟩; have hcv := run_toText (P := Try.prog) 35 9 5 Try.underlying35 Try.underlying5 Try.underlying9 (HSL.out.below hbel))
        go_ret3
        exact ⟨by rw [HY.out]; rfl, hbel⟩
      · have hsl := HSL.out
        rw [if_neg hck] at hsl
        have HSL := Lib.hid hsl; clear hsl
        go_enter Try.func52, Try.ntmps52
        go_wp2_with (go_at_call 41; refine (refGet_some HRD.out HB.out HG.out).mono ?_; rintro e w' ⟨rfl, hbel⟩; have hcv := run_toText (P := Try.prog) 35 9 5 Try.underlying35 Try.underlying5 Try.underlying9 (HSL.out.below hbel))
        go_ret3
        exact ⟨by rw [HYES.out]; rfl, hbel⟩
    · have HNO : Hid (textZ l = none) := by
        show _ = _
        simp only [textZ, hg]
        rw [if_neg (by rw [HLL.out]; exact hin)]
      have HG := Lib.hid hg; clear hg
      by_cases hz0 : 0 ≤ z
      · have hsub : (n : Int) - (k : Int) < z := by omega
        go_enter Try.func52, Try.ntmps52
        go_wp2_with (go_at_call 41; refine (refGet_some HRD.out HB.out HG.out).mono ?_; rintro e w' ⟨rfl, hbel⟩)
        go_ret3
        exact ⟨by rw [HNO.out]; rfl, hbel⟩
      · go_enter Try.func52, Try.ntmps52
        go_wp2_with (go_at_call 41; refine (refGet_some HRD.out HB.out HG.out).mono ?_; rintro e w' ⟨rfl, hbel⟩)
        go_ret3
        exact ⟨by rw [HNO.out]; rfl, hbel⟩
end Go.Proofs.Ytijhcoidhlmecaa
