/- Layer 2: the bytes of a value: the code and the document's answer. -/
import Derived.Test.YtijhcoidhlmecaaRows
import Derived.Test.YtijhcoidhlmecaaMem2
import Derived.Test.YtijhcoidhlmecaaCodeGetText
import Derived.Test.YtijhcoidhlmecaaValPlain
namespace Go.Proofs.Ytijhcoidhlmecaa
set_option maxRecDepth 100000
open Go.RowKit

/-- the bytes of a value -/
def bytesZ (k n : Int) (s : ByteArray) : List Int := k % 256 :: (if k = 1 then putZ n else if k = 2 then putZ s.size ++ sbytes s else [])

theorem own_built (w : World) (base : Nat) (e : TypeId) (vs : List Value) (hb : base ≤ w.heap.size) (hn : vs.length ≤ 4294967296) : (w.alloc (.cells vs.toArray e)).ownsRow base e 1 (.slice (some ⟨w.heap.size, 0, none⟩) vs.length vs.length) vs.length vs := by
  refine ⟨by simp, .inr ⟨w.heap.size, vs.length, vs.toArray, rfl, hb, heap_alloc_new _ _, Nat.le_refl _, by unfold maxLen; omega, by simp, by simp⟩⟩

theorem wrap8 (k : Int) : IntKind.u8.wrap k = k % 256 := by simp [IntKind.wrap, IntKind.signed, IntKind.bits]

set_option maxHeartbeats 1600000 in
theorem bytes_any (k n : Int) (s : ByteArray) (w : World) (h0 : -9223372036854775808 ≤ n) (h1 : n ≤ 9223372036854775807) (hs : s.size ≤ 2147483600) :
    Calls Try.prog 35 #[.agg #[.int .i64 k, .int .i64 n, .string s]] w (Fresh 5 .u8 (bytesZ k n s) w) := by
  refine fresh ?_
  obtain ⟨x, hx, hx0⟩ : ∃ x : Int, IntKind.u8.wrap k = x ∧ Hid (x = k % 256) := ⟨_, rfl, Lib.hid (wrap8 k)⟩
  have hown0 := own_built (w.alloc (valCells k n s)) w.heap.size 5 (vals .u8 [x]) (by simp) (by simp)
  have B := below_new (below_new (Below.refl w.heap.size w) (valCells k n s)) (.cells #[.int .u8 x] 5)
  have HO : Hid (((w.alloc (valCells k n s)).alloc (.cells #[.int .u8 x] 5)).ownsRow w.heap.size 5 1 (.slice (some ⟨w.heap.size + 1, 0, none⟩) 1 1) 1 (vals .u8 [x])) := by
    have e : (w.alloc (valCells k n s)).heap.size = w.heap.size + 1 := World.size_alloc ..
    rw [e] at hown0
    exact hown0
  clear hown0
  rcases Decidable.em (k = 1) with rfl | hk1
  · have P : ∀ W, Calls Try.prog 34 #[.int .i64 n] W (Fresh 5 .u8 (putZ n) W) := fun W => fresh (put_any n W h0 h1)
    have hl := (putZ_len n).2
    obtain ⟨l, hl2, hll, P⟩ : ∃ l : List Int, Hid (l = putZ n) ∧ l.length ≤ 10 ∧ Hid (∀ W, Calls Try.prog 34 #[.int .i64 n] W (Fresh 5 .u8 l W)) := ⟨_, Lib.hid rfl, hl, Lib.hid P⟩
    clear hl
    go_enter Try.func35, Try.ntmps35
    go_wp2_with fail
    refine (P.out _).mono ?_
    rintro e w2 ⟨A2, c2, rfl, _, rd2, b2⟩
    have hown := own_below HO.out b2
    have b3 := below_then B b2
    have hsz := b3.size
    go_wp2_with (at_builtin; refine wpList_app rfl (.tmp 12) (.tmp 15) _ rfl 5 Try.underlying35 _ 1 Try.infoByte rfl (by decide) w.heap.size _ _ _ _ _ _ _ rfl rfl hown rd2 (vals_one _ _) (by omega) b3 hsz ?_; intro v3 w3 hown3 hbel3 hsz3)
    go_ret
    refine ⟨v3, rfl, ?_, hbel3⟩
    have e : bytesZ 1 n s = [x] ++ l := by rw [bytesZ, hx0.out, hl2.out, if_pos rfl]; rfl
    rw [e, List.length_append, vals, List.map_append]
    exact hown3
  rcases Decidable.em (k = 2) with rfl | hk2
  · have hl := (putZ_len s.size).2
    obtain ⟨l, hl2, hll, P⟩ : ∃ l : List Int, Hid (l = putZ s.size ++ sbytes s) ∧ l.length ≤ 2147483610 ∧ Hid (∀ W, Calls Try.prog 47 #[.string s] W (Fresh 5 .u8 l W)) :=
      ⟨_, Lib.hid rfl, by rw [List.length_append, sbytes_len]; omega, Lib.hid fun W => fresh (text_any s W (by omega))⟩
    clear hl
    go_enter Try.func35, Try.ntmps35
    go_wp2_with fail
    refine (P.out _).mono ?_
    rintro e w2 ⟨A2, c2, rfl, _, rd2, b2⟩
    have hown := own_below HO.out b2
    have b3 := below_then B b2
    have hsz := b3.size
    go_wp2_with (at_builtin; refine wpList_app rfl (.tmp 19) (.tmp 22) _ rfl 5 Try.underlying35 _ 1 Try.infoByte rfl (by decide) w.heap.size _ _ _ _ _ _ _ rfl rfl hown rd2 (vals_one _ _) (by omega) b3 hsz ?_; intro v3 w3 hown3 hbel3 hsz3)
    go_ret
    refine ⟨v3, rfl, ?_, hbel3⟩
    have e : bytesZ 2 n s = [x] ++ l := by rw [bytesZ, hx0.out, hl2.out, if_neg (by decide), if_pos rfl]; rfl
    rw [e, List.length_append, vals, List.map_append]
    exact hown3
  · go_enter Try.func35, Try.ntmps35
    go_wp2
    go_ret
    refine ⟨_, rfl, ?_, B⟩
    have e : bytesZ k n s = [x] := by rw [bytesZ, hx0.out, if_neg hk1, if_neg hk2]
    rw [e]
    exact HO.out

set_option maxHeartbeats 1600000 in
theorem refBytes_any (k n : Int) (s : ByteArray) (w : World) (h0 : -9223372036854775808 ≤ n) (h1 : n ≤ 9223372036854775807) (hs : s.size ≤ 2147483600) :
    Calls Try.prog 40 #[.agg #[.int .i64 k, .int .i64 n, .string s]] w (Fresh 5 .u8 (bytesZ k n s) w) := by
  refine fresh ?_
  obtain ⟨x, hx, hx0⟩ : ∃ x : Int, IntKind.u8.wrap k = x ∧ Hid (x = k % 256) := ⟨_, rfl, Lib.hid (wrap8 k)⟩
  have hown0 := own_built (w.alloc (valCells k n s)) w.heap.size 5 (vals .u8 [x]) (by simp) (by simp)
  have B := below_new (below_new (Below.refl w.heap.size w) (valCells k n s)) (.cells #[.int .u8 x] 5)
  have HO : Hid (((w.alloc (valCells k n s)).alloc (.cells #[.int .u8 x] 5)).ownsRow w.heap.size 5 1 (.slice (some ⟨w.heap.size + 1, 0, none⟩) 1 1) 1 (vals .u8 [x])) := by
    have e : (w.alloc (valCells k n s)).heap.size = w.heap.size + 1 := World.size_alloc ..
    rw [e] at hown0
    exact hown0
  clear hown0
  rcases Decidable.em (k = 1) with rfl | hk1
  · have P : ∀ W, Calls Try.prog 39 #[.int .i64 n] W (Fresh 5 .u8 (putZ n) W) := fun W => fresh (refPut_any n W h0 h1)
    have hl := (putZ_len n).2
    obtain ⟨l, hl2, hll, P⟩ : ∃ l : List Int, Hid (l = putZ n) ∧ l.length ≤ 10 ∧ Hid (∀ W, Calls Try.prog 39 #[.int .i64 n] W (Fresh 5 .u8 l W)) := ⟨_, Lib.hid rfl, hl, Lib.hid P⟩
    clear hl
    go_enter Try.func40, Try.ntmps40
    go_wp2_with fail
    refine (P.out _).mono ?_
    rintro e w2 ⟨A2, c2, rfl, _, rd2, b2⟩
    have hown := own_below HO.out b2
    have b3 := below_then B b2
    have hsz := b3.size
    go_wp2_with (at_builtin; refine wpList_app rfl (.tmp 11) (.tmp 14) _ rfl 5 Try.underlying35 _ 1 Try.infoByte rfl (by decide) w.heap.size _ _ _ _ _ _ _ rfl rfl hown rd2 (vals_one _ _) (by omega) b3 hsz ?_; intro v3 w3 hown3 hbel3 hsz3)
    go_ret
    refine ⟨v3, rfl, ?_, hbel3⟩
    have e : bytesZ 1 n s = [x] ++ l := by rw [bytesZ, hx0.out, hl2.out, if_pos rfl]; rfl
    rw [e, List.length_append, vals, List.map_append]
    exact hown3
  rcases Decidable.em (k = 2) with rfl | hk2
  · have hl := (putZ_len s.size).2
    obtain ⟨l, hl2, hll, P⟩ : ∃ l : List Int, Hid (l = putZ s.size ++ sbytes s) ∧ l.length ≤ 2147483610 ∧ Hid (∀ W, Calls Try.prog 51 #[.string s] W (Fresh 5 .u8 l W)) :=
      ⟨_, Lib.hid rfl, by rw [List.length_append, sbytes_len]; omega, Lib.hid fun W => fresh (refText_any s W (by omega))⟩
    clear hl
    go_enter Try.func40, Try.ntmps40
    go_wp2_with fail
    refine (P.out _).mono ?_
    rintro e w2 ⟨A2, c2, rfl, _, rd2, b2⟩
    have hown := own_below HO.out b2
    have b3 := below_then B b2
    have hsz := b3.size
    go_wp2_with (at_builtin; refine wpList_app rfl (.tmp 19) (.tmp 22) _ rfl 5 Try.underlying35 _ 1 Try.infoByte rfl (by decide) w.heap.size _ _ _ _ _ _ _ rfl rfl hown rd2 (vals_one _ _) (by omega) b3 hsz ?_; intro v3 w3 hown3 hbel3 hsz3)
    go_ret
    refine ⟨v3, rfl, ?_, hbel3⟩
    have e : bytesZ 2 n s = [x] ++ l := by rw [bytesZ, hx0.out, hl2.out, if_neg (by decide), if_pos rfl]; rfl
    rw [e, List.length_append, vals, List.map_append]
    exact hown3
  · go_enter Try.func40, Try.ntmps40
    go_wp2
    go_ret
    refine ⟨_, rfl, ?_, B⟩
    have e : bytesZ k n s = [x] := by rw [bytesZ, hx0.out, if_neg hk1, if_neg hk2]
    rw [e]
    exact HO.out
end Go.Proofs.Ytijhcoidhlmecaa
