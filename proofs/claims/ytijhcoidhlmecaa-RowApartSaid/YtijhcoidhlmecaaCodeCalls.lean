/- Numbers, texts and rows of numbers as bytes: what package code makes, and what its answer makes. -/
import Derived.Test.YtijhcoidhlmecaaRows
import Derived.Test.YtijhcoidhlmecaaMem
import Derived.Test.YtijhcoidhlmecaaCodeLay
namespace Go.Proofs.Ytijhcoidhlmecaa
set_option maxRecDepth 100000
open Go.RowKit

set_option maxHeartbeats 400000 in
theorem put_any (n : Int) (w : World) (h1 : -9223372036854775808 ≤ n) (h2 : n ≤ 9223372036854775807) :
    Calls Try.prog 34 #[.int .i64 n] w fun e w' =>
      ∃ v, e = .returned v ∧ w'.ownsRow w.heap.size 5 1 v (putZ n).length (vals .u8 (putZ n)) ∧ Below w.heap.size w w' := by
  have hrd : Rd (w.alloc (.cells #[.int .i64 n] 3)) (some ⟨w.heap.size, 0, none⟩) 1 1 (vals .i64 [n]) := by
    refine ⟨rfl, Nat.le_refl _, by simp [maxLen], fun _ => ⟨w.heap.size, 0, rfl, by simp, fun j hj => ?_⟩⟩
    simp at hj
    subst hj
    exact (cell_of_row _ w.heap.size _ _ 3 (0, 0) (heap_alloc_new w _)).trans rfl
  go_enter Try.func34, Try.ntmps34
  go_wp2_with fail
  refine (lay_any (w.alloc (.cells #[.int .i64 n] 3)) _ _ _ _ _ [] [n] (World.ownsRow_nil _ _ _ _) hrd (Below.refl _ _) (by simp; exact ⟨h1, h2⟩) (by simp)).mono ?_
  rintro e w1 ⟨v, rfl, hown, hbel⟩
  go_wp2
  go_ret
  have e1 : [] ++ catZ [n] = putZ n := by simp [catZ]
  rw [e1] at hown
  refine ⟨v, rfl, own_mono hown (by simp), ?_⟩
  exact ((Below.refl _ _).alloc (Nat.le_refl _) _).trans (hbel.mono (by simp))

set_option maxHeartbeats 400000 in
theorem text_any (s : ByteArray) (w : World) (hs : s.size ≤ 4294967296) :
    Calls Try.prog 47 #[.string s] w fun e w' =>
      ∃ v, e = .returned v ∧ w'.ownsRow w.heap.size 5 1 v (putZ s.size ++ sbytes s).length (vals .u8 (putZ s.size ++ sbytes s)) ∧ Below w.heap.size w w' := by
  go_enter Try.func47, Try.ntmps47
  go_wp2_with fail
  refine (put_any _ _ (by omega) (by omega)).mono ?_
  rintro e w1 ⟨v, rfl, hown, hbel⟩
  have hsz := hbel.size
  have hpl := (putZ_len s.size).2
  go_wp2_with (at_builtin; refine wpList_appStr rfl (.tmp 5) (.tmp 6) _ _ rfl 5 Try.underlying35 Try.underlying9 Try.infoByte w.heap.size _ _ _ s rfl rfl hown (by omega) hbel hsz ?_; intro v1 w2 hown1 hbel1 hsz1)
  go_ret
  refine ⟨v1, rfl, ?_, hbel1⟩
  rw [List.length_append, sbytes_len, vals, List.map_append]
  exact hown1

set_option maxHeartbeats 400000 in
theorem refText_any (s : ByteArray) (w : World) (hs : s.size ≤ 4294967296) :
    Calls Try.prog 51 #[.string s] w fun e w' =>
      ∃ v, e = .returned v ∧ w'.ownsRow w.heap.size 5 1 v (putZ s.size ++ sbytes s).length (vals .u8 (putZ s.size ++ sbytes s)) ∧ Below w.heap.size w w' := by
  go_enter Try.func51, Try.ntmps51
  go_wp2_with fail
  refine (refPut_any _ _ (by omega) (by omega)).mono ?_
  rintro e w1 ⟨v, rfl, hown, hbel⟩
  have hsz := hbel.size
  have hpl := (putZ_len s.size).2
  go_wp2_with (at_builtin; refine wpList_appStr rfl (.tmp 5) (.tmp 6) _ _ rfl 5 Try.underlying35 Try.underlying9 Try.infoByte w.heap.size _ _ _ s rfl rfl hown (by omega) hbel hsz ?_; intro v1 w2 hown1 hbel1 hsz1)
  go_ret
  refine ⟨v1, rfl, ?_, hbel1⟩
  rw [List.length_append, sbytes_len, vals, List.map_append]
  exact hown1

theorem catZ_len (l : List Int) : (catZ l).length ≤ 10 * l.length := by
  induction l with
  | nil => simp [catZ]
  | cons x l ih =>
    have h := (putZ_len x).2
    simp only [catZ, List.flatMap_cons, List.length_append, List.length_cons] at ih ⊢
    omega
theorem catZ_snoc (l : List Int) (k : Nat) (x : Int) (h : l[k]? = some x) : catZ (l.take (k + 1)) = catZ (l.take k) ++ putZ x := by
  rw [List.take_add_one, h]; simp [catZ]

end Go.Proofs.Ytijhcoidhlmecaa
