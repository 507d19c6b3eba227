/- Layer 3: the bytes of a row: the code and the document's answer. -/
import Derived.Test.YtijhcoidhlmecaaRowOrd
import Derived.Test.YtijhcoidhlmecaaValBackMath
namespace Go.Proofs.Ytijhcoidhlmecaa
set_option maxRecDepth 100000
open Go.RowKit

def bytesV (v : V3) : List Int := bytesZ v.k v.n v.s
/-- the bytes of a row -/
def rowZ (l : List V3) : List Int := putZ l.length ++ l.flatMap bytesV
/-- a value whose number and text are of a size that is looked at -/
def V3.Ok (v : V3) : Prop := -9223372036854775808 ≤ v.n ∧ v.n ≤ 9223372036854775807 ∧ v.s.size ≤ 100000

theorem bytesV_len {v : V3} (h : v.s.size ≤ 100000) : (bytesV v).length ≤ 100011 := by
  have a := (putZ_len v.n).2
  have b := (putZ_len v.s.size).2
  rw [bytesV, bytesZ]
  split
  · simp; omega
  · split
    · rw [List.length_cons, List.length_append, sbytes_len]; omega
    · simp

set_option maxHeartbeats 1600000 in
theorem rowBytes_any (A : Option Addr) (n c : Nat) (l : List V3) (w : World) (hrd : RdV w A n c l) (ho : ∀ v ∈ l, v.Ok) (hn : n ≤ 60000) :
    Calls Try.prog 21 #[.slice A n c] w (Fresh 5 .u8 (rowZ l) w) := by
  refine fresh ?_
  have hll := hrd.len
  have HRD := Lib.hid hrd; have HLL := Lib.hid hll; have HO := Lib.hid ho
  clear hrd hll ho
  go_enter Try.func21, Try.ntmps21
  go_wp2_with fail
  refine (put_any _ _ (by omega) (by omega)).mono ?_
  rintro e w1 ⟨v, rfl, hown, hbel⟩
  go_wp2_with fail
  have hpl := (putZ_len n).2
  go_loopw [3, 11] (fun v i wr => ∃ (k : Nat) (out : List Int), k ≤ n ∧ i = .int .i64 k ∧ Hid (out = putZ n ++ (l.take k).flatMap bytesV) ∧ out.length ≤ 10 + 100011 * k ∧
      wr.ownsRow w.heap.size 5 1 v out.length (vals .u8 out) ∧ Below w.heap.size w wr) (fun _ i _ => n - (intOf i).toNat)
  case atStart => exact ⟨0, putZ n, Nat.zero_le _, rfl, by show putZ n = _; simp, by omega, hown, hbel⟩
  case round =>
    obtain ⟨k, out, hk, rfl, hout, hol, hown, hbel⟩ := hrel
    by_cases hlt : k < n
    · obtain ⟨b, o, x, rfl, hb, hx, hld⟩ := HRD.out.val hlt
      obtain ⟨c0, c1, c2⟩ := hld _ hbel
      obtain ⟨hx1, hx2, hx3⟩ := HO.out x (List.mem_of_getElem? hx)
      obtain ⟨u, hu, hul, P⟩ : ∃ u : List Int, Hid (bytesV x = u) ∧ u.length ≤ 100011 ∧ Hid (∀ W, Calls Try.prog 35 #[x.agg] W (Fresh 5 .u8 u W)) :=
        ⟨_, Lib.hid rfl, bytesV_len hx3, Lib.hid fun W => bytes_any _ _ _ W hx1 hx2 (by omega)⟩
      have hnext : Hid (putZ n ++ (l.take (k + 1)).flatMap bytesV = out ++ u) := by
        show _ = _
        rw [List.take_add_one, hx, List.flatMap_append, ← List.append_assoc, ← hout.out]
        simp [hu.out]
      clear hx hld hout
      have hsz := hbel.size
      have B1 := below_new hbel (.cells #[.int .i64 x.k, .int .i64 x.n, .string x.s] 44)
      have hsz1 : w.heap.size ≤ wr.heap.size + 1 := by omega
      have HOW := Lib.hid (hown.alloc (.cells #[.int .i64 x.k, .int .i64 x.n, .string x.s] 44))
      clear hown
      go_wp2_with (first
        | (go_at_call 35; refine (P.out _).mono ?_; rintro e w2 ⟨B, cx, rfl, hownx, hrdx, hbelx⟩)
        | (at_builtin; refine wpList_app rfl (.tmp 15) (.tmp 17) _ rfl 5 Try.underlying35 _ 1 Try.infoByte rfl (by decide) w.heap.size _ _ _ _ _ _ _ rfl rfl (own_below HOW.out hbelx) hrdx (vals_one _ _) (by omega) (below_then B1 hbelx) (below_then B1 hbelx).size ?_; intro v3 w3 hown3 hbel3 hsz3))
      refine ⟨⟨k + 1, out ++ u, by omega, by go_num, hnext.out.symm, by rw [List.length_append]; omega, ?_, hbel3⟩, by simp [intOf]; omega⟩
      rw [List.length_append, vals, List.map_append]
      exact hown3
    · go_wp2
      go_ret
      have h := hout.out
      rw [List.take_of_length_le (by rw [HLL.out]; omega)] at h
      have e : out = rowZ l := by rw [h, rowZ, HLL.out]
      exact ⟨_, rfl, by rw [← e]; exact hown, hbel⟩

set_option maxHeartbeats 1600000 in
theorem refRowBytes_any (A : Option Addr) (n c : Nat) (l : List V3) (w : World) (hrd : RdV w A n c l) (ho : ∀ v ∈ l, v.Ok) (hn : n ≤ 60000) :
    Calls Try.prog 24 #[.slice A n c] w (Fresh 5 .u8 (rowZ l) w) := by
  refine fresh ?_
  have hll := hrd.len
  have HRD := Lib.hid hrd; have HLL := Lib.hid hll; have HO := Lib.hid ho
  clear hrd hll ho
  go_enter Try.func24, Try.ntmps24
  go_wp2_with fail
  refine (refPut_any _ _ (by omega) (by omega)).mono ?_
  rintro e w1 ⟨v, rfl, hown, hbel⟩
  go_wp2_with fail
  have hpl := (putZ_len n).2
  go_loopw [3, 4] (fun v i wr => ∃ (k : Nat) (out : List Int), k ≤ n ∧ i = .int .i64 k ∧ Hid (out = putZ n ++ (l.take k).flatMap bytesV) ∧ out.length ≤ 10 + 100011 * k ∧
      wr.ownsRow w.heap.size 5 1 v out.length (vals .u8 out) ∧ Below w.heap.size w wr) (fun _ i _ => n - (intOf i).toNat)
  case atStart => exact ⟨0, putZ n, Nat.zero_le _, rfl, by show putZ n = _; simp, by omega, hown, hbel⟩
  case round =>
    obtain ⟨k, out, hk, rfl, hout, hol, hown, hbel⟩ := hrel
    by_cases hlt : k < n
    · obtain ⟨b, o, x, rfl, hb, hx, hld⟩ := HRD.out.val hlt
      obtain ⟨c0, c1, c2⟩ := hld _ hbel
      obtain ⟨hx1, hx2, hx3⟩ := HO.out x (List.mem_of_getElem? hx)
      obtain ⟨u, hu, hul, P⟩ : ∃ u : List Int, Hid (bytesV x = u) ∧ u.length ≤ 100011 ∧ Hid (∀ W, Calls Try.prog 40 #[x.agg] W (Fresh 5 .u8 u W)) :=
        ⟨_, Lib.hid rfl, bytesV_len hx3, Lib.hid fun W => refBytes_any _ _ _ W hx1 hx2 (by omega)⟩
      have hnext : Hid (putZ n ++ (l.take (k + 1)).flatMap bytesV = out ++ u) := by
        show _ = _
        rw [List.take_add_one, hx, List.flatMap_append, ← List.append_assoc, ← hout.out]
        simp [hu.out]
      clear hx hld hout
      have hsz := hbel.size
      have HOW := Lib.hid hown
      clear hown
      go_wp2_with (first
        | (go_at_call 40; refine (P.out _).mono ?_; rintro e w2 ⟨B, cx, rfl, hownx, hrdx, hbelx⟩)
        | (at_builtin; refine wpList_app rfl (.tmp 14) (.tmp 19) _ rfl 5 Try.underlying35 _ 1 Try.infoByte rfl (by decide) w.heap.size _ _ _ _ _ _ _ rfl rfl (own_below HOW.out hbelx) hrdx (vals_one _ _) (by omega) (below_then hbel hbelx) (below_then hbel hbelx).size ?_; intro v3 w3 hown3 hbel3 hsz3))
      refine ⟨⟨k + 1, out ++ u, by omega, by go_num, hnext.out.symm, by rw [List.length_append]; omega, ?_, hbel3⟩, by simp [intOf]; omega⟩
      rw [List.length_append, vals, List.map_append]
      exact hown3
    · go_wp2
      go_ret
      have h := hout.out
      rw [List.take_of_length_le (by rw [HLL.out]; omega)] at h
      have e : out = rowZ l := by rw [h, rowZ, HLL.out]
      exact ⟨_, rfl, by rw [← e]; exact hown, hbel⟩
end Go.Proofs.Ytijhcoidhlmecaa
