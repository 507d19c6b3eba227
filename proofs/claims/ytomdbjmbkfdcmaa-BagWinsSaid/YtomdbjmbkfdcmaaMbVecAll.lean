/- Layer 5: whether something holds of each device: the code, by closures, and the document's answer. -/
import Derived.Test.YtomdbjmbkfdcmaaMbVecOf
import Derived.Shelf.Abstract
namespace Go.Proofs.Ytomdbjmbkfdcmaa
set_option maxRecDepth 100000
open Go.RowKit

/-- what a closure over two numbers tells -/
def TellsB (P : Program) (g : Nat) (p : Int → Int → Bool) : Prop :=
  ∀ (x y : Int) (W : World), Calls P g #[.int .i64 x, .int .i64 y] W fun e W' => e = .returned (.bool (p x y)) ∧ W' = W

theorem allV_step {p : Int → Int → Bool} {a b : List Int} {k : Nat} {r : Bool} (h : ((List.range k).all fun j => p (ofN a j) (ofN b j)) = true) (hr : p (ofN a k) (ofN b k) = r) : ((List.range (k + 1)).all fun j => p (ofN a j) (ofN b j)) = r := by
  rw [List.range_succ, List.all_append, h]; simp [hr]
theorem allV_no {p : Int → Int → Bool} {a b : List Int} {k n : Nat} (hk : k < n) (hr : p (ofN a k) (ofN b k) = false) : ((List.range n).all fun j => p (ofN a j) (ofN b j)) = false := by
  rw [List.all_eq_false]; exact ⟨k, List.mem_range.2 hk, by rw [hr]; simp⟩

set_option maxHeartbeats 1600000 in
theorem vecAll_any (g : Nat) (p : Int → Int → Bool) (A B : Option Addr) (n m c d : Nat) (a b : List Int) (w : World) (eg : ∀ args w, (callFunc g args).run Try.prog w = .ok (.enter g args) w) (hp : TellsB Try.prog g p)
    (ha : Rd w A n c (vals .i64 a)) (hb : Rd w B m d (vals .i64 b)) :
    Calls Try.prog 66 #[.slice A n c, .slice B m d, .func (.func g) #[] #[]] w fun e w' => e = .returned (.bool (allV p a b)) ∧ w' = w := by
  have hle := ha.le; have hle2 := hb.le
  have hla : a.length = n := by simpa using ha.len
  have hlb : b.length = m := by simpa using hb.len
  obtain ⟨r, hr⟩ : ∃ r, Hid (allV p a b = r) := ⟨_, rfl⟩
  obtain ⟨N, hN⟩ : ∃ N, Hid (max n m = N) := ⟨_, rfl⟩
  have hmx : max (n : Int) (m : Int) = (N : Int) := by have := hN.out; omega
  have hNl : N ≤ 9223372036854775807 := by have := hN.out; omega
  have hrN : Hid (((List.range N).all fun j => p (ofN a j) (ofN b j)) = r) := by show _ = _; rw [← hr.out, allV, hla, hlb, hN.out]
  have HA := Lib.hid ha; have HB := Lib.hid hb
  rw [hr.out]
  have PA := Lib.hid (fun k W (hW : W = w) => vecOf_any A n c a k W (hW ▸ HA.out))
  have PB := Lib.hid (fun k W (hW : W = w) => vecOf_any B m d b k W (hW ▸ HB.out))
  have HP := Lib.hid hp
  clear ha hb hla hlb hr hp
  go_enter Try.func66, Try.ntmps66
  go_wp2_with fail
  all_goals
    first
      | (have e0 : (m : Int) = (N : Int) := by have := hN.out; omega
         rw [e0]; clear e0)
      | (have e0 : (n : Int) = (N : Int) := by have := hN.out; omega
         rw [e0]; clear e0)
    go_loopw [13] (fun v wr => ∃ k : Nat, v = .int .i64 k ∧ k ≤ N ∧ Hid (((List.range k).all fun j => p (ofN a j) (ofN b j)) = true) ∧ wr = w) (fun v _ => N - (intOf v).toNat)
    case atStart => exact ⟨0, rfl, Nat.zero_le _, by show _ = _; simp, by trivial⟩
    case round =>
      obtain ⟨k, rfl, hk, hE, hw⟩ := hrel
      subst hw
      by_cases hlt : k < N
      · have hlz : (k : Int) < (N : Int) := by omega
        obtain ⟨s, hs⟩ : ∃ s, Hid (p (ofN a k) (ofN b k) = s) := ⟨_, rfl⟩
        have PX := Lib.hid (fun W (hW : W = _) => PA.out ((k : Int) + 1) W hW)
        have PY := Lib.hid (fun W (hW : W = _) => PB.out ((k : Int) + 1) W hW)
        have PZ := Lib.hid (fun W => HP.out (ofN a k) (ofN b k) W)
        rw [ofV_nat] at PX PY
        rw [hs.out] at PZ
        have q1 : IntKind.i64.wrap ((k : Int) + 1) = (k : Int) + 1 := wrap_is (by omega)
        go_wp2_with fail
        refine (PX.out _ rfl).mono ?_
        rintro e w1 ⟨rfl, rfl⟩
        go_wp2_with fail
        refine (PY.out _ rfl).mono ?_
        rintro e w2 ⟨rfl, rfl⟩
        go_wp2_with fail
        refine (PZ.out _).mono ?_
        rintro e w3 ⟨rfl, rfl⟩
        cases s with
        | true =>
          have HE := Lib.hid (allV_step hE.out hs.out)
          go_wp2
          exact ⟨⟨k + 1, by go_num, by omega, HE, by trivial⟩, by simp [intOf]; omega⟩
        | false =>
          have HE := Lib.hid (allV_no hlt hs.out)
          go_wp2
          go_ret
          exact ⟨ret_bool (by rw [← hrN.out, HE.out]), rfl⟩
      · have hlz : ¬ (k : Int) < (N : Int) := by omega
        obtain rfl : k = N := by omega
        go_wp2
        go_ret
        exact ⟨ret_bool (by rw [← hrN.out, hE.out]), rfl⟩

theorem right1_any : TellsB Try.prog 67 (fun x _ => okN x) := by
  intro x y W
  rcases Decidable.em (0 ≤ x) with h0 | h0
  · rcases Decidable.em (x ≤ 1048576) with h1 | h1
    all_goals
      go_enter Try.func67, Try.ntmps67
      go_wp2
      go_ret
      exact ⟨ret_bool (by simp [okN, h0, h1]), rfl⟩
  · go_enter Try.func67, Try.ntmps67
    go_wp2
    go_ret
    exact ⟨ret_bool (by unfold okN; rw [decide_eq_false (by omega)]; rfl), rfl⟩
theorem Try.eg37 : ∀ args w, (callFunc 67 args).run Try.prog w = .ok (.enter 67 args) w := enters_of Try.func67 (by kernel_rfl) rfl
theorem vecRight_any (A : Option Addr) (n c : Nat) (a : List Int) (w : World) (ha : Rd w A n c (vals .i64 a)) :
    Calls Try.prog 26 #[.slice A n c] w fun e w' => e = .returned (.bool (rightV a)) ∧ w' = w := by
  have P := Lib.hid (vecAll_any _ _ A none n 0 c 0 a [] w Try.eg37 right1_any ha (Rd.nil_ w))
  have hla : a.length = n := by simpa using ha.len
  have hle := ha.le
  rw [right_one (f := okN) (fun _ _ => rfl)] at P
  rcases Decidable.em ((64 : Int) < n) with h1 | h1
  · have HR : Hid (rightV a = false) := by show _ = _; simp [rightV]; omega
    clear ha hla
    go_enter Try.func26, Try.ntmps26
    go_wp2
    go_ret
    exact ⟨ret_bool HR.out.symm, rfl⟩
  · have HR : Hid (rightV a = a.all okN) := by show _ = _; rw [rightV, decide_eq_true (by omega)]; simp
    rw [HR.out]
    generalize a.all okN = r at P
    clear ha hla HR
    go_enter Try.func26, Try.ntmps26
    go_wp2_with fail
    refine P.out.mono ?_
    rintro e w1 ⟨rfl, rfl⟩
    go_wp2
    go_ret
    exact ⟨rfl, rfl⟩

end Go.Proofs.Ytomdbjmbkfdcmaa

