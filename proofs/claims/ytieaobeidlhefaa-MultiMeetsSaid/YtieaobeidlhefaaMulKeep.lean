/- Layer 7: multi.keep: a new list of those that stay. -/
import Derived.Test.YtieaobeidlhefaaMulMem
import Derived.Laws.NewBlocks
import Derived.Deep.WholeRow
namespace Go.Proofs.Ytieaobeidlhefaa
set_option maxRecDepth 100000
open Go.RowKit

/-- a closure over one part tells p of it, in every world behind w0 -/
def TellsP (P : Program) (g : Nat) (cb : Array Value) (p : P11 → Bool) (w0 : World) : Prop :=
  ∀ W, Below w0.heap.size w0 W → ∀ x : P11, Calls P g (#[x.agg] ++ cb) W fun e W' => e = .returned (.bool (p x)) ∧ Below W.heap.size W W'

theorem filter_step {α : Type} {p : α → Bool} {l : List α} {k : Nat} {x : α} (hx : l[k]? = some x) : (l.take (k + 1)).filter p = (l.take k).filter p ++ (if p x then [x] else []) := by
  rw [List.take_add_one, hx, List.filter_append]
  simp [List.filter]
  cases p x <;> rfl

set_option maxHeartbeats 3200000 in
theorem keep_any (g : Nat) (cb : Array Value) (p : P11 → Bool) (A : Option Addr) (n c : Nat) (l : List P11) (w : World) (eg : ∀ args w, (callFunc g args).run Try.prog w = .ok (.enter g args) w)
    (h : RdP w A n c l) (hn : n ≤ 4294967296) (hp : TellsP Try.prog g cb p w) :
    Calls Try.prog 54 #[.slice A n c, .func (.func g) #[] cb] w fun e w' => ∃ v, e = .returned v ∧ w'.ownsRow w.heap.size 32 11 v (l.filter p).length ((l.filter p).flatMap P11.cells) ∧ Below w.heap.size w w' := by
  have hl := h.len
  have HRD := Lib.hid h; have HL := Lib.hid hl; have HP := Lib.hid hp
  clear h hl hp
  go_enter Try.func54, Try.ntmps54
  go_wp2_with fail
  go_loopw [5, 10] (fun v i wr => ∃ (k : Nat) (done : List P11), k ≤ n ∧ i = .int .i64 k ∧ Hid (done = (l.take k).filter p) ∧ wr.ownsRow w.heap.size 32 11 v done.length (done.flatMap P11.cells) ∧ Below w.heap.size w wr ∧ w.heap.size ≤ wr.heap.size) (fun _ i _ => n - (intOf i).toNat)
  case atStart => exact ⟨0, [], Nat.zero_le _, rfl, by show _ = _; simp, ⟨rfl, .inl ⟨rfl, rfl⟩⟩, Below.refl _ _, Nat.le_refl _⟩
  case round =>
    obtain ⟨k, done, hk, rfl, hd, hown, hbel, hsz⟩ := hrel
    by_cases hlt : k < n
    · obtain ⟨b, o, x, rfl, hb, hx, hld⟩ := HRD.out.part hlt
      obtain ⟨c0, c1, c2, c3, c4, c5, c6, c7, c8, c9, c10⟩ := hld _ hbel
      have hstep := Lib.hid (filter_step (p := p) hx)
      have B2 := below_new hbel (partCells x)
      obtain ⟨r, hr, C⟩ : ∃ r, Hid (p x = r) ∧ Hid (Calls Try.prog g (#[x.agg] ++ cb) (wr.alloc (partCells x)) fun e W' => e = .returned (.bool r) ∧ Below (wr.alloc (partCells x)).heap.size (wr.alloc (partCells x)) W') := ⟨_, rfl, HP.out _ B2 x⟩
      have hnew := Lib.hid (heap_alloc_new wr (partCells x))
      have HO2 := Lib.hid (hown.alloc (partCells x))
      have hsz2 : wr.heap.size < (wr.alloc (partCells x)).heap.size := by simp
      have HB2 := Lib.hid B2; have HS2 := Lib.hid hsz2
      clear hld B2 hown hsz2 hx
      go_wp2_with fail
      refine C.out.mono ?_
      rintro e w2 ⟨rfl, b2⟩
      have B3 := below_then HB2.out b2
      have hown3 := own_below HO2.out b2
      have hsz3 := Nat.le_trans HS2.out b2.size
      obtain ⟨n0, n1, n2, n3, n4, n5, n6, n7, n8, n9, n10⟩ := part_row (row_below hnew.out b2)
      clear c0 c1 c2 c3 c4 c5 c6 c7 c8 c9 c10 hbel b2
      have hdl : done.length < 4294967296 := by
        have h1 := HL.out
        have h2 : done.length ≤ k := by rw [hd.out]; exact Nat.le_trans (List.length_filter_le _ _) (by rw [List.length_take]; omega)
        omega
      cases r with
      | true =>
        have hd2 : Hid (done ++ [x] = (l.take (k + 1)).filter p) := by show _ = _; rw [hstep.out, hr.out, hd.out]; rfl
        go_wp2_with (at_builtin; refine wpList_pushP rfl (.tmp 17) (.tmp 19) rfl w.heap.size _ _ done x w2.heap.size rfl rfl rfl hown3 hdl B3 (by omega) ?_; intro v3 w5 hown5 B5 hsz5)
        exact ⟨⟨k + 1, done ++ [x], by omega, by go_num, hd2, by simpa using hown5, B5, hsz5⟩, by simp [intOf]; omega⟩
      | false =>
        have hd2 : Hid (done = (l.take (k + 1)).filter p) := by show _ = _; rw [hstep.out, hr.out, hd.out]; simp
        go_wp2
        exact ⟨⟨k + 1, done, by omega, by go_num, hd2, hown3, B3, by omega⟩, by simp [intOf]; omega⟩
    · have hfin : Hid (done = l.filter p) := by
        show _ = _
        have h1 := HL.out
        rw [hd.out, List.take_of_length_le (by omega)]
      go_wp2
      go_ret
      exact ⟨_, rfl, by rw [← hfin.out]; exact hown, hbel⟩
end Go.Proofs.Ytieaobeidlhefaa
