/- Layer 9: parts are gone through by a range over a function: those, of which a function of one part says so. -/
import Derived.Test.YtomdbjmbkfdcmaaMbBagTells
import Derived.RangeFuncNested
import Derived.RangeFuncBound
import Derived.RangeFuncCalls
import Derived.RangeFuncLeaves
import Derived.Shelf.Abstract
import Derived.Shelf.RegionOpen
import Derived.OwnWalkIn
import Derived.TacticsInMore
import Derived.LoopNIn
import Derived.LoopIn
import Derived.Sort.CutIn
namespace Go.Proofs.Ytomdbjmbkfdcmaa
set_option maxRecDepth 100000
open Go.RowKit Go.Sort Go.Shelf
attribute [local go_sem] Oper.semAt_some

theorem grown_of_below {W W' : World} (h : Below W.heap.size W W') : W.grownBy W' none := ⟨h.os, h.tape, h.output, h.size, fun k hk _ => h.block k hk⟩

/-- a function with a bound receiver tells p of a part, in every world behind w0 -/
def TellsR (P : Program) (g : Nat) (r : Value) (p : P11 → Bool) (w0 : World) : Prop :=
  ∀ W, Below w0.heap.size w0 W → ∀ x : P11, Calls P g #[r, x.agg] W fun e W' => e = .returned (.bool (p x)) ∧ Below W.heap.size W W'

/-- what an iterator over parts leans on: its two boxes, and what lay in wb -/
structure ItP (B1 B2 : Nat) (A : Option Addr) (m c : Nat) (fv : Value) (wb W : World) : Prop where
  b1 : Boxed W B1 24 (.slice A m c)
  b2 : Boxed W B2 60 fv
  bel : Below wb.heap.size wb W
theorem ItP.below {B1 B2 : Nat} {A : Option Addr} {m c : Nat} {fv : Value} {wb W W' : World} (h : ItP B1 B2 A m c fv wb W) (hb : Below W.heap.size W W') : ItP B1 B2 A m c fv wb W' :=
  ⟨(hb.block B1 h.b1.lt).trans h.b1, (hb.block B2 h.b2.lt).trans h.b2, below_then h.bel hb⟩
theorem ItP.grown {B1 B2 : Nat} {A : Option Addr} {m c : Nat} {fv : Value} {wb W W' : World} {row : Option Nat} (h : ItP B1 B2 A m c fv wb W) (hg : W.grownBy W' row) (h1 : some B1 ≠ row) (h2 : some B2 ≠ row) (h3 : ∀ k, row = some k → wb.heap.size ≤ k) : ItP B1 B2 A m c fv wb W' :=
  ⟨h.b1.kept hg h1, h.b2.kept hg h2, h.bel.grown hg h.bel.size h3⟩
theorem ItP.put {B1 B2 : Nat} {A : Option Addr} {m c : Nat} {fv : Value} {wb w : World} (hw : wb.heap.size ≤ w.heap.size) (W : World) (l : Nat) (o o' : Obj) (hl : w.heap.size ≤ l) (ho : W.heap[l]? = some o) (hc : o.isCells = false) (_ : o.isWalk = false) (h : ItP B1 B2 A m c fv wb W) : ItP B1 B2 A m c fv wb (W.putObj l o') :=
  h.grown (grownBy_putObj' W l o') (fun e => by cases e; rw [h.b1] at ho; cases ho; cases hc) (fun e => by cases e; rw [h.b2] at ho; cases ho; cases hc) (fun k e => by cases e; omega)

theorem filter_pre {p : P11 → Bool} {L : List P11} (k : Nat) : (L.take k).filter p <+: L.filter p := (List.take_prefix k L).filter p
theorem those_any (A : Option Addr) (n c : Nat) (g : Nat) (r : Value) (w : World) : Calls Try.prog 50 #[.slice A n c, .func (.func g) #[r] #[]] w fun e w' =>
    e = .returned (.func (.func 89) #[] #[.pointer (some ⟨w.heap.size, 0, none⟩), .pointer (some ⟨w.heap.size + 1, 0, none⟩)]) ∧ w' = (w.alloc (.cells #[.slice A n c] 24)).alloc (.cells #[.func (.func g) #[r] #[]] 60) := by
  go_enter Try.func50, Try.ntmps50
  go_wp2
  go_ret
  exact ⟨rfl, rfl⟩

/-- what those makes is such an iterator -/
theorem itp_new (A : Option Addr) (m c : Nat) (fv : Value) (w : World) : ItP w.heap.size (w.heap.size + 1) A m c fv w ((w.alloc (.cells #[.slice A m c] 24)).alloc (.cells #[fv] 60)) :=
  ⟨(Boxed.new w _ _).alloc _, by have := Boxed.new (w.alloc (.cells #[.slice A m c] 24)) 60 fv; rwa [World.size_alloc] at this, below_new (below_new (Below.refl _ _) _) _⟩

set_option maxHeartbeats 3200000 in
theorem those_stops (n : Nat) (hn : 2 ≤ n) (B1 B2 : Nat) (A : Option Addr) (m c : Nat) (L : List P11) (g : Nat) (r : Value) (p : P11 → Bool) (wb w : World)
    (eg : ∀ args w, (callFunc g args).run Try.prog w = .ok (.enter g args) w) (hrd : RdP wb A m c L) (hp : TellsR Try.prog g r p wb) (hI : ItP B1 B2 A m c (.func (.func g) #[r] #[]) wb w) :
    SeqStopsK Fence.wide n Try.prog 89 #[.pointer (some ⟨B1, 0, none⟩), .pointer (some ⟨B2, 0, none⟩)] (fun x : P11 => #[x.agg])
      (fun X Y => ItP B1 B2 A m c (.func (.func g) #[r] #[]) wb X → ItP B1 B2 A m c (.func (.func g) #[r] #[]) wb Y) (fun ys => ys = L.filter p) (fun pre => pre <+: L.filter p) (L.filter p).length w := by
  intro l J Jx W hW hJ hJx hY h0
  have HI0 := Lib.hid (hI.below hW)
  have HL := Lib.hid hrd.len
  have HRD := Lib.hid hrd; have HP := Lib.hid hp; have HY := Lib.hid hY
  have hle := hrd.le
  have HJ : Hid (∀ s A B, J s A → Below A.heap.size A B → J s B) := fun s A B hs hb => hJ s A B none hs (grown_of_below hb) (fun r e => by cases e)
  have c1 := HI0.out.b1.cell
  have H0 := Lib.hid h0
  clear hI hrd hp hY hJ hJx hW h0
  have hF : Fence.wide.fn g := trivial
  refine callsIn_of_wp Try.func89 rfl trivial ?_ rfl
  simp only [Try.ntmps89, List.size_toArray, List.length_cons, List.length_nil, Nat.reduceAdd, Nat.reduceSub, Array.replicate_succ, Array.replicate_zero, List.push_toArray, List.append_toArray, List.nil_append, List.cons_append]
  gi_wp2
  gi_loopw [8] (fun i wr => ∃ (k : Nat) (pre : List P11), k ≤ m ∧ i = .int .i64 k ∧ Hid (pre = (L.take k).filter p) ∧ Hid (J pre wr) ∧ Hid (ItP B1 B2 A m c (.func (.func g) #[r] #[]) wb wr)) (fun i _ => m - (intOf i).toNat)
  case atStart => exact ⟨0, [], Nat.zero_le _, rfl, by show _ = _; simp, H0, HI0⟩
  case round =>
    obtain ⟨k, pre, hk, rfl, hpre, hJs, hIt⟩ := hrel
    by_cases hlt : k < m
    · obtain ⟨b, o, x, rfl, hb, hx, hld⟩ := HRD.out.part hlt
      obtain ⟨c0, c1, c2, c3, c4, c5, c6, c7, c8, c9, c10⟩ := hld wr hIt.out.bel
      have hstep := Lib.hid (filter_step (p := p) hx)
      obtain ⟨w2, hw2⟩ : ∃ w2, w2 = wr.alloc (partCells x) := ⟨_, rfl⟩
      have bb : Below wr.heap.size wr w2 := by rw [hw2]; exact below_new (Below.refl _ _) _
      have hnew : w2.heap[wr.heap.size]? = some (partCells x) := by rw [hw2]; exact heap_alloc_new _ _
      have HJ2 := Lib.hid (HJ.out _ _ _ hJs.out bb)
      have HI2 := Lib.hid (hIt.out.below bb)
      have f2 := HI2.out.b2.cell
      obtain ⟨rr, hrr, C⟩ : ∃ rr, Hid (p x = rr) ∧ Hid (Calls Try.prog g #[r, x.agg] w2 fun e W' => e = .returned (.bool rr) ∧ Below w2.heap.size w2 W') := ⟨_, rfl, HP.out _ HI2.out.bel x⟩
      obtain ⟨n0, n1, n2, n3, n4, n5, n6, n7, n8, n9, n10⟩ := part_row hnew
      have HNEW := Lib.hid hnew
      clear hld hx hnew bb
      replace hw2 := Lib.hid hw2
      gi_upto_region 3 with fail
      rw [show wr.alloc (Obj.cells #[Value.int .i64 x.v.k, .int .i64 x.v.n, .string x.v.s, .int .i64 x.d.d, .int .i64 x.d.s, .int .i64 x.i, .int .i64 x.t, .int .i64 x.a.d, .int .i64 x.a.s, .int .i64 x.j, .bool x.g] 30) = w2 from hw2.out.symm]
      clear hw2 c0 c1 c2 c3 c4 c5 c6 c7 c8 c9 c10
      gi_wp2_with fail
      refine ⟨fun _ => by omega, (callsIn_wide.2 C.out).mono ?_⟩
      rintro e w3 ⟨rfl, b3⟩
      have HJ3 := Lib.hid (HJ.out _ _ _ HJ2.out b3)
      have HI3 := Lib.hid (HI2.out.below b3)
      have hpl := Lib.hid (filter_pre (p := p) (L := L) (k + 1))
      obtain ⟨m0, m1, m2, m3, m4, m5, m6, m7, m8, m9, m10⟩ := part_row (row_below HNEW.out b3)
      clear C HJ2 HI2 b3 n0 n1 n2 n3 n4 n5 n6 n7 n8 n9 n10 HNEW
      cases rr with
      | false =>
        have hd2 : Hid (pre = (L.take (k + 1)).filter p) := by show _ = _; rw [hstep.out, hrr.out, hpre.out]; simp
        gi_wp2_with fail
        refine ⟨fun _ h => (by cases h), ?_⟩
        gi_wp2_with fail
        go_roundw
        case rel => exact ⟨k + 1, pre, by omega, by go_num, hd2, HJ3, HI3⟩
        case measure => simp [intOf]; omega
      | true =>
        have hd2 : Hid (pre ++ [x] = (L.take (k + 1)).filter p) := by show _ = _; rw [hstep.out, hrr.out, hpre.out]; rfl
        have hlen : pre.length < (L.filter p).length := by
          have h1 := hpl.out.length_le
          rw [← hd2.out, List.length_append] at h1
          simp only [List.length_cons, List.length_nil] at h1
          omega
        obtain ⟨fn, tmps, assign, body, hy, hR⟩ := HY.out pre x w3 HJ3.out hlen
        clear hlen
        gi_wp2_with fail
        refine ⟨fun _ => by omega, hR.mono ?_⟩
        rintro e w4 (⟨rfl, hJ4, hk4⟩ | ⟨rfl, hJx4⟩)
        · have HI4 := Lib.hid (hk4 HI3.out)
          have HJ4 := Lib.hid hJ4
          gi_wp2_with fail
          go_roundw
          case rel => exact ⟨k + 1, pre ++ [x], by omega, by go_num, hd2, HJ4, HI4⟩
          case measure => simp [intOf]; omega
        · gi_wp2_with fail
          refine bodyPost_ret (results_none rfl _ _ _) rfl ?_
          exact ⟨⟨_, rfl⟩, .inr ⟨pre ++ [x], by rw [hd2.out]; exact hpl.out, hJx4⟩⟩
    · have hfin : Hid (pre = L.filter p) := by
        show _ = _
        have h1 := HL.out
        rw [hpre.out, List.take_of_length_le (by omega)]
      gi_wp2_with fail
      go_end0
      exact ⟨⟨_, rfl⟩, .inl ⟨pre, hfin.out, hJs.out⟩⟩
end Go.Proofs.Ytomdbjmbkfdcmaa

