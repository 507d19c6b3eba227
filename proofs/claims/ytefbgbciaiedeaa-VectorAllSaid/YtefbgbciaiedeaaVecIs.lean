/- Layer 5: the contracts once more, with what they hand back, and its length, named ahead. -/
import Derived.Test.YtefbgbciaiedeaaVecLacks2
namespace Go.Proofs.Ytefbgbciaiedeaa
set_option maxRecDepth 100000
open Go.RowKit

theorem same_below {w w' : World} (h : w' = w) : Below w.heap.size w w' := by subst h; exact Below.refl _ _
theorem quiet_below {w w' : World} (h : Quiet w w') : Below w.heap.size w w' := h.below _
theorem is_len {P : Program} {f : Nat} {args : Array Value} {w : World} {l r : List Int} {k : Nat} (hr : l = r) (hk : r.length = k)
    (h : Calls P f args w fun e w' => ∃ A' n' c', e = .returned (.slice A' n' c') ∧ Rd w' A' n' c' (vals .i64 l) ∧ Below w.heap.size w w') :
    Calls P f args w fun e w' => ∃ A' c', e = .returned (.slice A' k c') ∧ Rd w' A' k c' (vals .i64 r) ∧ Below w.heap.size w w' := by
  subst hr hk
  refine h.mono ?_
  rintro e w' ⟨A', n', c', rfl, h1, h2⟩
  have hn : l.length = n' := by simpa using h1.len
  subst hn
  exact ⟨_, _, rfl, h1, h2⟩
theorem is_lenD {P : Program} {f : Nat} {args : Array Value} {w : World} {l r : List D2} {k : Nat} (hr : l = r) (hk : r.length = k)
    (h : Calls P f args w fun e w' => ∃ A' n' c', e = .returned (.slice A' n' c') ∧ RdD w' A' n' c' l ∧ Below w.heap.size w w') :
    Calls P f args w fun e w' => ∃ A' c', e = .returned (.slice A' k c') ∧ RdD w' A' k c' r ∧ Below w.heap.size w w' := by
  subst hr hk
  refine h.mono ?_
  rintro e w' ⟨A', n', c', rfl, h1, h2⟩
  have hn : l.length = n' := h1.len
  subst hn
  exact ⟨_, _, rfl, h1, h2⟩
theorem is_bool {P : Program} {f : Nat} {args : Array Value} {w : World} {x r : Bool} (hr : x = r) {Q : World → Prop} (h : Calls P f args w fun e w' => e = .returned (.bool x) ∧ Q w') : Calls P f args w fun e w' => e = .returned (.bool r) ∧ Q w' := by
  subst hr; exact h
theorem is_int {P : Program} {f : Nat} {args : Array Value} {w : World} {x r : Int} (hr : x = r) {Q : World → Prop} (h : Calls P f args w fun e w' => e = .returned (.int .i64 x) ∧ Q w') : Calls P f args w fun e w' => e = .returned (.int .i64 r) ∧ Q w' := by
  subst hr; exact h
theorem refEqual_is {A B : Option Addr} {n m c d : Nat} {a b : List Int} {w : World} {r : Bool} (hr : (decide (n = m) && sameV a b) = r) (ha : Rd w A n c (vals .i64 a)) (hb : Rd w B m d (vals .i64 b)) (hn : n ≤ 4294967296) (hm : m ≤ 4294967296) :
    Calls Try.prog 23 #[.slice A n c, .slice B m d] w fun e w' => e = .returned (.bool r) ∧ w' = w := is_bool hr (refEqual_any A B n m c d a b w ha hb hn hm)
theorem vecJoin_is {A B : Option Addr} {n m c d : Nat} {a b : List Int} {w : World} {r : List Int} {k : Nat} (hr : joinV a b = r) (hk : r.length = k) (ha : Rd w A n c (vals .i64 a)) (hb : Rd w B m d (vals .i64 b)) (hn : n ≤ 4294967296) (hm : m ≤ 4294967296) :
    Calls Try.prog 24 #[.slice A n c, .slice B m d] w fun e w' => ∃ A' c', e = .returned (.slice A' k c') ∧ Rd w' A' k c' (vals .i64 r) ∧ Below w.heap.size w w' := is_len hr hk (vecJoin_any A B n m c d a b w ha hb hn hm)
theorem refJoin_is {A B : Option Addr} {n m c d : Nat} {a b : List Int} {w : World} {r : List Int} {k : Nat} (hr : joinV a b = r) (hk : r.length = k) (ha : Rd w A n c (vals .i64 a)) (hb : Rd w B m d (vals .i64 b)) (hn : n ≤ 4294967296) (hm : m ≤ 4294967296) :
    Calls Try.prog 25 #[.slice A n c, .slice B m d] w fun e w' => ∃ A' c', e = .returned (.slice A' k c') ∧ Rd w' A' k c' (vals .i64 r) ∧ Below w.heap.size w w' := is_len hr hk (refJoin_any A B n m c d a b w ha hb hn hm)
theorem vecMeet_is {A B : Option Addr} {n m c d : Nat} {a b : List Int} {w : World} {r : List Int} {k : Nat} (hr : meetV a b = r) (hk : r.length = k) (ha : Rd w A n c (vals .i64 a)) (hb : Rd w B m d (vals .i64 b)) (hn : n ≤ 4294967296) (hm : m ≤ 4294967296) :
    Calls Try.prog 26 #[.slice A n c, .slice B m d] w fun e w' => ∃ A' c', e = .returned (.slice A' k c') ∧ Rd w' A' k c' (vals .i64 r) ∧ Below w.heap.size w w' := is_len hr hk (vecMeet_any A B n m c d a b w ha hb hn hm)
theorem refMeet_is {A B : Option Addr} {n m c d : Nat} {a b : List Int} {w : World} {r : List Int} {k : Nat} (hr : meetV a b = r) (hk : r.length = k) (ha : Rd w A n c (vals .i64 a)) (hb : Rd w B m d (vals .i64 b)) (hn : n ≤ 4294967296) (hm : m ≤ 4294967296) :
    Calls Try.prog 27 #[.slice A n c, .slice B m d] w fun e w' => ∃ A' c', e = .returned (.slice A' k c') ∧ Rd w' A' k c' (vals .i64 r) ∧ Below w.heap.size w w' := is_len hr hk (refMeet_any A B n m c d a b w ha hb hn hm)
theorem vecSet_is {A : Option Addr} {n c : Nat} {l : List Int} {d x : Int} {w : World} {r : List Int} {k : Nat} (hr : setV l d x = r) (hk : r.length = k) (h : Rd w A n c (vals .i64 l)) (hn : n ≤ 4294967296) :
    Calls Try.prog 30 #[.slice A n c, .int .i64 d, .int .i64 x] w fun e w' => ∃ A' c', e = .returned (.slice A' k c') ∧ Rd w' A' k c' (vals .i64 r) ∧ Below w.heap.size w w' := is_len hr hk (vecSet_any A n c l d x w h hn)
theorem vecLacks_is {A B : Option Addr} {n m c d : Nat} {a b : List Int} {w : World} {r : List D2} {k : Nat} (hr : lacksV a b = r) (hk : r.length = k) (ha : Rd w A n c (vals .i64 a)) (hb : Rd w B m d (vals .i64 b)) :
    Calls Try.prog 34 #[.slice A n c, .slice B m d] w fun e w' => ∃ A' c', e = .returned (.slice A' k c') ∧ RdD w' A' k c' r ∧ Below w.heap.size w w' := is_lenD hr hk (vecLacks_any A B n m c d a b w ha hb)
theorem refSet_is {A : Option Addr} {n c : Nat} {l : List Int} {d x : Int} {w : World} {r : List Int} {k : Nat} (hr : setV l d x = r) (hk : r.length = k) (h : Rd w A n c (vals .i64 l)) (hn : n ≤ 4294967296) :
    Calls Try.prog 31 #[.slice A n c, .int .i64 d, .int .i64 x] w fun e w' => ∃ A' c', e = .returned (.slice A' k c') ∧ Rd w' A' k c' (vals .i64 r) ∧ Below w.heap.size w w' := is_len hr hk (refSet_any A n c l d x w h hn)
theorem refLacks_is {A B : Option Addr} {n m c d : Nat} {a b : List Int} {w : World} {r : List D2} {k : Nat} (hr : lacksV a b = r) (hk : r.length = k) (ha : Rd w A n c (vals .i64 a)) (hb : Rd w B m d (vals .i64 b)) :
    Calls Try.prog 35 #[.slice A n c, .slice B m d] w fun e w' => ∃ A' c', e = .returned (.slice A' k c') ∧ RdD w' A' k c' r ∧ Below w.heap.size w w' := is_lenD hr hk (refLacks_any A B n m c d a b w ha hb)
theorem vecTrim_is {A : Option Addr} {n c : Nat} {l : List Int} {w : World} {r : List Int} {k : Nat} (hr : trimV l = r) (hk : r.length = k) (h : Rd w A n c (vals .i64 l)) (hn : n ≤ 4294967296) :
    Calls Try.prog 28 #[.slice A n c] w fun e w' => ∃ A' c', e = .returned (.slice A' k c') ∧ Rd w' A' k c' (vals .i64 r) ∧ Below w.heap.size w w' := is_len hr hk (vecTrim_any A n c l w h hn)
theorem refTrim_is {A : Option Addr} {n c : Nat} {l : List Int} {w : World} {r : List Int} {k : Nat} (hr : trimV l = r) (hk : r.length = k) (h : Rd w A n c (vals .i64 l)) :
    Calls Try.prog 29 #[.slice A n c] w fun e w' => ∃ A' c', e = .returned (.slice A' k c') ∧ Rd w' A' k c' (vals .i64 r) ∧ Below w.heap.size w w' :=
  is_len hr hk ((refTrim_any n A c l w h).mono fun _ _ ⟨n', h1, h2, h3⟩ => ⟨A, n', c, h1, h2, same_below h3⟩)
end Go.Proofs.Ytefbgbciaiedeaa
