/- Numbers, texts and rows of numbers as bytes: what package code makes, and what its answer makes. -/
import Derived.Test.YtbajdehcomheaaaRows
import Derived.Test.YtbajdehcomheaaaMem
import Derived.Test.YtbajdehcomheaaaCodeLay
namespace Go.Proofs.Ytbajdehcomheaaa
open Go.RowKit

set_option maxHeartbeats 400000 in
theorem put_any (n : Int) (w : World) (h1 : -9223372036854775808 ≤ n) (h2 : n ≤ 9223372036854775807) :
    Calls Try.prog 13 #[.int .i64 n] w fun e w' =>
      ∃ v, e = .returned v ∧ w'.ownsRow w.heap.size 5 1 v (putZ n).length (vals .u8 (putZ n)) ∧ Below w.heap.size w w' := by
  have hrd : Rd (w.alloc (.cells #[.int .i64 n] 3)) (some ⟨w.heap.size, 0, none⟩) 1 1 (vals .i64 [n]) := by
    refine ⟨rfl, Nat.le_refl _, by simp [maxLen], fun _ => ⟨w.heap.size, 0, rfl, by simp, fun j hj => ?_⟩⟩
    simp at hj
    subst hj
    exact (cell_of_row _ w.heap.size _ _ 3 (0, 0) (heap_alloc_new w _)).trans rfl
  go_enter Try.func13, Try.ntmps13
  go_wp2_with fail
  refine (lay_any (w.alloc (.cells #[.int .i64 n] 3)) _ _ _ _ _ [] [n] (World.ownsRow_nil _ _ _ _) hrd (Below.refl _ _) (by simp; exact ⟨h1, h2⟩) (by simp)).mono ?_
  rintro e w1 ⟨v, rfl, hown, hbel⟩
  go_wp2
  go_ret
  have e1 : [] ++ catZ [n] = putZ n := by simp [catZ]
  rw [e1] at hown
  refine ⟨v, rfl, own_mono hown (by simp), ?_⟩
  exact ((Below.refl _ _).alloc (Nat.le_refl _) _).trans (hbel.mono (by simp))

set_option maxHeartbeats 400000 in
theorem text_any (s : ByteArray) (w : World) (hs : s.size ≤ 4294967296) :
    Calls Try.prog 22 #[.string s] w fun e w' =>
      ∃ v, e = .returned v ∧ w'.ownsRow w.heap.size 5 1 v (putZ s.size ++ sbytes s).length (vals .u8 (putZ s.size ++ sbytes s)) ∧ Below w.heap.size w w' := by
  go_enter Try.func22, Try.ntmps22
  go_wp2_with fail
  refine (put_any _ _ (by omega) (by omega)).mono ?_
  rintro e w1 ⟨v, rfl, hown, hbel⟩
  have hsz := hbel.size
  have hpl := (putZ_len s.size).2
  go_wp2_with (at_builtin; refine wpList_appStr rfl (.tmp 5) (.tmp 6) _ _ rfl 5 Try.underlying24 Try.underlying9 Try.infoByte w.heap.size _ _ _ s rfl rfl hown (by omega) hbel hsz ?_; intro v1 w2 hown1 hbel1 hsz1)
  go_ret
  refine ⟨v1, rfl, ?_, hbel1⟩
  rw [List.length_append, sbytes_len, vals, List.map_append]
  exact hown1

set_option maxHeartbeats 400000 in
theorem refText_any (s : ByteArray) (w : World) (hs : s.size ≤ 4294967296) :
    Calls Try.prog 23 #[.string s] w fun e w' =>
      ∃ v, e = .returned v ∧ w'.ownsRow w.heap.size 5 1 v (putZ s.size ++ sbytes s).length (vals .u8 (putZ s.size ++ sbytes s)) ∧ Below w.heap.size w w' := by
  go_enter Try.func23, Try.ntmps23
  go_wp2_with fail
  refine (refPut_any _ _ (by omega) (by omega)).mono ?_
  rintro e w1 ⟨v, rfl, hown, hbel⟩
  have hsz := hbel.size
  have hpl := (putZ_len s.size).2
  go_wp2_with (at_builtin; refine wpList_appStr rfl (.tmp 5) (.tmp 6) _ _ rfl 5 Try.underlying24 Try.underlying9 Try.infoByte w.heap.size _ _ _ s rfl rfl hown (by omega) hbel hsz ?_; intro v1 w2 hown1 hbel1 hsz1)
  go_ret
  refine ⟨v1, rfl, ?_, hbel1⟩
  rw [List.length_append, sbytes_len, vals, List.map_append]
  exact hown1

set_option maxHeartbeats 400000 in
theorem nums_any (A : Option Addr) (n c : Nat) (l : List Int) (w : World) (hrd : Rd w A n c (vals .i64 l)) (hin : ∀ x ∈ l, inI x) (hn : n ≤ 4294967296 / 4) :
    Calls Try.prog 24 #[.slice A n c] w fun e w' =>
      ∃ v, e = .returned v ∧ w'.ownsRow w.heap.size 5 1 v (putZ n ++ catZ l).length (vals .u8 (putZ n ++ catZ l)) ∧ Below w.heap.size w w' := by
  go_enter Try.func24, Try.ntmps24
  have HRD := Lib.hid hrd; clear hrd
  go_wp2_with fail
  refine (put_any _ _ (by omega) (by omega)).mono ?_
  rintro e w1 ⟨v, rfl, hown, hbel⟩
  go_wp2_with fail
  have hpl := (putZ_len n).2
  refine (lay_any w _ _ _ _ _ (putZ n) l hown HRD.out hbel hin (by omega)).mono ?_
  rintro e w2 ⟨v2, rfl, hown2, hbel2⟩
  go_wp2
  go_ret
  exact ⟨v2, rfl, hown2, hbel2⟩

theorem catZ_len (l : List Int) : (catZ l).length ≤ 10 * l.length := by
  induction l with
  | nil => simp [catZ]
  | cons x l ih =>
    have h := (putZ_len x).2
    simp only [catZ, List.flatMap_cons, List.length_append, List.length_cons] at ih ⊢
    omega
theorem catZ_snoc (l : List Int) (k : Nat) (x : Int) (h : l[k]? = some x) : catZ (l.take (k + 1)) = catZ (l.take k) ++ putZ x := by
  rw [List.take_add_one, h]; simp [catZ]

set_option maxHeartbeats 800000 in
theorem refNums_any (A : Option Addr) (n c : Nat) (l : List Int) (w : World) (hrd : Rd w A n c (vals .i64 l)) (hin : ∀ x ∈ l, inI x) (hn : n ≤ 4294967296 / 4) :
    Calls Try.prog 25 #[.slice A n c] w fun e w' =>
      ∃ v, e = .returned v ∧ w'.ownsRow w.heap.size 5 1 v (putZ n ++ catZ l).length (vals .u8 (putZ n ++ catZ l)) ∧ Below w.heap.size w w' := by
  have hll : l.length = n := by simpa using hrd.len
  have HLL := Lib.hid hll; clear hll
  have HIN := Lib.hid hin; clear hin
  go_enter Try.func25, Try.ntmps25
  have HRD := Lib.hid hrd; clear hrd
  go_wp2_with fail
  refine (refPut_any _ _ (by omega) (by omega)).mono ?_
  rintro e w1 ⟨v, rfl, hown, hbel⟩
  go_wp2_with fail
  have hpl := (putZ_len n).2
  go_loopw [3, 4] (fun v i wr => ∃ (k : Nat) (out : List Int), k ≤ n ∧ i = .int .i64 k ∧ Hid (out = putZ n ++ catZ (l.take k)) ∧ out.length ≤ 10 + 10 * k ∧
      wr.ownsRow w.heap.size 5 1 v out.length (vals .u8 out) ∧ Below w.heap.size w wr) (fun _ i _ => n - (intOf i).toNat)
  case atStart => exact ⟨0, putZ n, Nat.zero_le _, rfl, by show putZ n = _; simp [catZ], by omega, hown, hbel⟩
  case round =>
    obtain ⟨k, out, hk, rfl, hout, hol, hown, hbel⟩ := hrel
    by_cases hlt : k < n
    · obtain ⟨b, o, u, rfl, hb, hu, hcu⟩ := HRD.out.at_ hlt
      obtain ⟨x, hx, rfl⟩ := vals_at hu
      obtain ⟨hx1, hx2⟩ := HIN.out x (List.mem_of_getElem? hx)
      have hc2 : wr.cell? ⟨b, o + k, none⟩ = some (.int .i64 x) := (hbel.cell hb).trans hcu
      have hnext : Hid (putZ n ++ catZ (l.take (k + 1)) = out ++ putZ x) := by
        show _ = _
        rw [catZ_snoc l k x hx, hout.out, List.append_assoc]
      have hxl := (putZ_len x).2
      clear hcu hx hu hout
      have hsz := hbel.size
      go_wp2_with (first
        | (go_at_call 14; refine (fresh (refPut_any _ _ hx1 hx2)).mono ?_; rintro e w2 ⟨B, cx, rfl, hownx, hrdx, hbelx⟩)
        | (at_builtin; refine wpList_app rfl (.tmp 14) (.tmp 19) _ rfl 5 Try.underlying24 _ 1 Try.infoByte rfl (by decide) w.heap.size _ _ _ _ _ _ _ rfl rfl (own_below hown hbelx) hrdx (vals_one _ _) (by omega) (hbel.trans (hbelx.mono hsz)) (by have := hbelx.size; omega) ?_; intro v3 w3 hown3 hbel3 hsz3))
      refine ⟨⟨k + 1, out ++ putZ x, by omega, by go_num, hnext.out.symm, by simp; omega, ?_, hbel3⟩, by simp [intOf]; omega⟩
      rw [List.length_append, vals, List.map_append]
      exact hown3
    · go_wp2
      go_ret
      have h := hout.out
      rw [List.take_of_length_le (by rw [HLL.out]; omega)] at h
      exact ⟨_, rfl, by rw [← h]; exact hown, hbel⟩
end Go.Proofs.Ytbajdehcomheaaa
