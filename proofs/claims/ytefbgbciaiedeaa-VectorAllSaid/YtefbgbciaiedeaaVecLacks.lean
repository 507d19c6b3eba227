/- Layer 5: what one lacks of another one: the code and the document's answer. -/
import Derived.Test.YtefbgbciaiedeaaVecDot
namespace Go.Proofs.Ytefbgbciaiedeaa
set_option maxRecDepth 100000
open Go.RowKit

/-- the dots of a device's that are lacked, the first j of them -/
def lackJ (a : List Int) (i j : Nat) : List D2 := (List.range j).map fun (t : Nat) => ⟨(i : Int) + 1, ofN a i + 1 + (t : Int)⟩
def lackM (a b : List Int) (i : Nat) : Nat := (ofN b i - ofN a i).toNat
def lackN (a b : List Int) (n : Nat) : List D2 := (List.range n).flatMap fun i => lackJ a i (lackM a b i)
def lacksV (a b : List Int) : List D2 := if (rightV a && rightV b) = true then lackN a b b.length else []

theorem lackJ_len (a : List Int) (i j : Nat) : (lackJ a i j).length = j := by simp [lackJ]
theorem lackJ_succ (a : List Int) (i j : Nat) : lackJ a i j ++ [⟨(i : Int) + 1, ofN a i + 1 + (j : Int)⟩] = lackJ a i (j + 1) := by simp [lackJ, List.range_succ]
theorem lackN_succ (a b : List Int) (n : Nat) : lackN a b (n + 1) = lackN a b n ++ lackJ a n (lackM a b n) := by simp [lackN, List.range_succ]
theorem lackN_len (a b : List Int) (n : Nat) : (lackN a b (n + 1)).length = (lackN a b n).length + lackM a b n := by rw [lackN_succ, List.length_append, lackJ_len]
theorem rightV_iff (l : List Int) : rightV l = true ↔ l.length ≤ 64 ∧ ∀ k, 0 ≤ ofN l k ∧ ofN l k ≤ 1048576 := by
  unfold rightV
  rw [Bool.and_eq_true, decide_eq_true_eq, List.all_eq_true]
  constructor
  · rintro ⟨h1, h2⟩
    refine ⟨h1, fun k => ?_⟩
    by_cases hk : k < l.length
    · rw [ofN_lt hk]; exact (okN_iff _).1 (h2 _ (List.getElem_mem hk))
    · rw [ofN_out (by omega)]; omega
  · rintro ⟨h1, h2⟩
    refine ⟨h1, fun x hx => ?_⟩
    obtain ⟨k, hk, rfl⟩ := List.mem_iff_getElem.1 hx
    have := h2 k
    rw [ofN_lt hk] at this
    exact (okN_iff _).2 this
theorem lackN_le {a b : List Int} (ha : rightV a = true) (hb : rightV b = true) : ∀ n, (lackN a b n).length ≤ n * 1048576
  | 0 => by simp [lackN]
  | n + 1 => by
    rw [lackN_len]
    have h1 := lackN_le ha hb n
    have h2 := ((rightV_iff a).1 ha).2 n
    have h3 := ((rightV_iff b).1 hb).2 n
    unfold lackM
    omega

set_option maxHeartbeats 3200000 in
theorem vecGap_any (A B : Option Addr) (n m c d : Nat) (a b : List Int) (w : World) (ha : Rd w A n c (vals .i64 a)) (hb : Rd w B m d (vals .i64 b)) (ra : rightV a = true) (rb : rightV b = true) :
    Calls Try.prog 46 #[.slice A n c, .slice B m d] w fun e w' => e = .returned (.int .i64 ((lackN a b b.length).length : Nat)) ∧ Quiet w w' := by
  have hlb : b.length = m := by simpa using hb.len
  rw [hlb]
  have hm64 : m ≤ 64 := by rw [← hlb]; exact ((rightV_iff b).1 rb).1
  obtain ⟨g, hg⟩ : ∃ g : Nat → Nat, Hid (∀ k, g k = (lackN a b k).length) := ⟨fun k => (lackN a b k).length, fun _ => rfl⟩
  have HG0 : Hid (g 0 = 0) := by show _ = _; rw [hg.out]; simp [lackN]
  have HGS : Hid (∀ k, (g (k + 1) : Int) = g k + max 0 (ofN b k - ofN a k)) := by
    intro k
    rw [hg.out, hg.out, lackN_len, lackM]
    omega
  have HGL : Hid (∀ k, k ≤ 64 → g k ≤ 67108864) := by
    intro k hk
    have := lackN_le ra rb k
    rw [hg.out]; omega
  have HRA := Lib.hid (((rightV_iff a).1 ra).2)
  have HRB := Lib.hid (((rightV_iff b).1 rb).2)
  rw [← hg.out m]
  have HB := Lib.hid hb
  have PA := Lib.hid (fun k W (hW : Quiet w W) => vecOf_any A n c a k W (ha.below (hW.below _)))
  have HBL := Lib.hid hlb
  clear ha hb ra rb hlb hg
  go_enter Try.func46, Try.ntmps46
  go_wp2_with fail
  go_loopw [5, 9] (fun u v wr => ∃ k : Nat, v = .int .i64 k ∧ u = .int .i64 (g k : Int) ∧ k ≤ m ∧ Quiet w wr) (fun _ v _ => m - (intOf v).toNat)
  case atStart => exact ⟨0, rfl, by rw [HG0.out]; rfl, Nat.zero_le _, Quiet.refl _⟩
  case round =>
    obtain ⟨k, rfl, rfl, hk, HQ⟩ := hrel
    by_cases hlt : k < m
    · have hlz : (k : Int) < (m : Int) := by omega
      obtain ⟨bb, o, v, rfl, hbb, hv, hc0⟩ := HB.out.at_ (k := k) hlt
      have hc := ((HQ.below w.heap.size).cell (p := ⟨bb, o + k, none⟩) hbb).trans hc0
      clear hc0 hbb
      obtain ⟨y, hy, rfl⟩ := vals_at hv
      have hy2 := ofN_at hy
      have PX := Lib.hid (fun W (hW : Quiet w W) => PA.out ((k : Int) + 1) W hW)
      rw [ofV_nat] at PX
      obtain ⟨x, hx⟩ : ∃ x, Hid (ofN a k = x) := ⟨_, rfl⟩
      have hS := HGS.out k
      have hr1 := HRA.out k; have hr2 := HRB.out k
      have hr3 := HGL.out (k + 1) (by omega)
      rw [hy2] at hS hr2
      rw [hx.out] at PX hS hr1
      obtain ⟨t, ht⟩ : ∃ t : Int, Hid ((g k : Int) + max 0 (y - x) = t) := ⟨_, rfl⟩
      have q1 : IntKind.i64.wrap ((k : Int) + 1) = (k : Int) + 1 := wrap_is (by omega)
      have q2 : IntKind.i64.wrap (y - x) = y - x := wrap_is (by omega)
      have HK1 : Hid ((g (k + 1) : Int) = (g k : Int) + max 0 (y - x)) := hS
      have q3 : IntKind.i64.wrap ((g k : Int) + (y - x)) = (g k : Int) + (y - x) := wrap_is (by omega)
      have q4 : IntKind.i64.wrap ((g k : Int)) = (g k : Int) := wrap_is (by omega)
      clear hS hy hv hy2 hr1 hr2 hr3
      rcases Decidable.em (0 < y - x) with hp | hp
      all_goals
        go_wp2_with fail
        go_quiet ((go_at_call 15; exact Calls.quiet_of_same (PX.out _ (HQ.trans (Quiet.add _ _)))))
        go_wp2
        refine ⟨⟨k + 1, by go_num, ?_, by omega, by exact HQ.trans (Quiet.add _ _)⟩, by simp [intOf]; omega⟩
        have := HK1.out
        first | (congr 1; omega) | omega
    · have hlz : ¬ (k : Int) < (m : Int) := by omega
      obtain rfl : k = m := by omega
      go_wp2
      go_ret
      exact ⟨rfl, HQ⟩
end Go.Proofs.Ytefbgbciaiedeaa
