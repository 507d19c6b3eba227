/- Several texts laid together: SchQs, SchRight, SchOpen. -/
import Derived.Test.YtfljhnalmiibeaaGreatMbSchFkA
import Derived.WalkMore
import Derived.Laws.EntriesVeiled
import Derived.Deep.LoopGhost
import Derived.Test.YtfljhnalmiibeaaGreatMbStruct
import Derived.Test.YtfljhnalmiibeaaGreatMbSchRefN
import Derived.SizedLaws
namespace Go.Proofs.YtfljhnalmiibeaaGreat
set_option maxRecDepth 100000
open Go.RowKit
/-- a question: how often it is asked, and the closure -/
structure Q2 where
  m : Nat
  g : Nat
  cb : Array Value
def Q2.cells (q : Q2) : List Value := [.int .i64 q.m, .func (.func q.g) #[] q.cb]
theorem q2len (q : Q2) : q.cells.length = 2 := rfl
abbrev RdQ (w : World) (A : Option Addr) (n c : Nat) (l : List Q2) : Prop := RdG Q2.cells 2 w A n c l
theorem RdG.qst {w : World} {A : Option Addr} {n c : Nat} {l : List Q2} (h : RdQ w A n c l) {k : Nat} (hk : k < n) :
    ∃ b o x, A = some ⟨b, o, none⟩ ∧ b < w.heap.size ∧ l[k]? = some x ∧ ∀ w', Below w.heap.size w w' → w'.cell? ⟨b, o + k * 2, none⟩ = some (.int .i64 x.m) ∧ w'.cell? ⟨b, o + k * 2 + 1, none⟩ = some (.func (.func x.g) #[] x.cb) := by
  obtain ⟨b, o, x, rfl, hb, hx, hc⟩ := h.at_ hk
  exact ⟨b, o, x, rfl, hb, hx, fun w' hw => ⟨(hw.cell hb).trans (hc 0 _ rfl), (hw.cell hb).trans (hc 1 _ rfl)⟩⟩
def qList (t : T6) (gs gi gt : Nat) : List Q2 :=
  [⟨1, 82, #[.pointer (some ⟨gs, 0, none⟩), .pointer (some ⟨gi, 0, none⟩), .pointer (some ⟨gt, 0, none⟩)]⟩,
   ⟨1, 84, #[.pointer (some ⟨gt, 0, none⟩)]⟩,
   ⟨t.nc, 86, #[.pointer (some ⟨gt, 0, none⟩)]⟩,
   ⟨1, 88, #[.pointer (some ⟨gt, 0, none⟩)]⟩,
   ⟨t.nu, 90, #[.pointer (some ⟨gt, 0, none⟩)]⟩,
   ⟨t.nf, 92, #[.pointer (some ⟨gs, 0, none⟩), .pointer (some ⟨gt, 0, none⟩)]⟩,
   ⟨t.ns, 94, #[.pointer (some ⟨gt, 0, none⟩)]⟩]
/-- the questions are those that are asked of the table -/
def Asks (n : Nat) (ahead : List T6) (t : T6) (qs : List Q2) (w : World) : Prop :=
  qs.length = 7 ∧ ∀ (q : Nat) (x : Q2), qs[q]? = some x → x.m = (askE n ahead t q).1 ∧ (∀ args w, (callFunc x.g args).run Tryz.prog w = .ok (.enter x.g args) w) ∧
    ((∀ p, p < q → ask1 n ahead t p = 0) → AskC Tryz.prog x.g x.cb x.m (askE n ahead t q).2 w)
theorem Tryz.egAsk1 : ∀ args w, (callFunc 82 args).run Tryz.prog w = .ok (.enter 82 args) w := enters_of Tryz.func82 (by kernel_rfl) rfl
theorem Tryz.egAsk2 : ∀ args w, (callFunc 84 args).run Tryz.prog w = .ok (.enter 84 args) w := enters_of Tryz.func84 (by kernel_rfl) rfl
theorem Tryz.egAsk3 : ∀ args w, (callFunc 86 args).run Tryz.prog w = .ok (.enter 86 args) w := enters_of Tryz.func86 (by kernel_rfl) rfl
theorem Tryz.egAsk4 : ∀ args w, (callFunc 88 args).run Tryz.prog w = .ok (.enter 88 args) w := enters_of Tryz.func88 (by kernel_rfl) rfl
theorem Tryz.egAsk5 : ∀ args w, (callFunc 90 args).run Tryz.prog w = .ok (.enter 90 args) w := enters_of Tryz.func90 (by kernel_rfl) rfl
theorem Tryz.egAsk6 : ∀ args w, (callFunc 92 args).run Tryz.prog w = .ok (.enter 92 args) w := enters_of Tryz.func92 (by kernel_rfl) rfl
theorem Tryz.egAsk7 : ∀ args w, (callFunc 94 args).run Tryz.prog w = .ok (.enter 94 args) w := enters_of Tryz.func94 (by kernel_rfl) rfl
theorem asks_of (A : Option Addr) (n c k : Nat) (l : List T6) (t : T6) (gs gi gt : Nat) (w : World) (h : RdS11 w A n c l) (hk : k < n) (ht : t.Reads w) (hs : w.heap[gs]? = some (schBox A n c)) (hi : w.heap[gi]? = some (.cells #[.int .i64 k] 3)) (hg : w.heap[gt]? = some (tabBox t)) :
    Asks n (l.take k) t (qList t gs gi gt) w := by
  refine ⟨rfl, fun q x hx => ?_⟩
  match q, hx with
  | 0, hx => cases hx; exact ⟨rfl, Tryz.egAsk1, fun _ => ask1_any A n c k l t gs gi gt w h hk hs hi hg⟩
  | 1, hx => cases hx; exact ⟨rfl, Tryz.egAsk2, fun _ => ask2_any t gt w hg⟩
  | 2, hx => cases hx; exact ⟨rfl, Tryz.egAsk3, fun _ => ask3_any t gt w ht hg⟩
  | 3, hx =>
    cases hx
    refine ⟨rfl, Tryz.egAsk4, fun h0 => ask4_any t gt w ht ?_ hg⟩
    have h1 : sizeErr t = 0 := by
      by_cases he : sizeErr t = 0
      · exact he
      · have := h0 1 (by omega)
        simp only [ask1, askE, firstE, if_neg he] at this
        exact absurd this he
    rcases Nat.eq_zero_or_pos t.nc with h2 | h2
    · rw [sizeErr, if_pos (Or.inl h2)] at h1; exact absurd h1 (by decide)
    · exact h2
  | 4, hx => cases hx; exact ⟨rfl, Tryz.egAsk5, fun _ => ask5_any t gt w ht hg⟩
  | 5, hx => cases hx; exact ⟨rfl, Tryz.egAsk6, fun _ => ask6_any A n c gs t gt w hs ht hg⟩
  | 6, hx => cases hx; exact ⟨rfl, Tryz.egAsk7, fun _ => ask7_any t gt w ht hg⟩
  | q + 7, hx => simp [qList] at hx
set_option maxHeartbeats 3200000 in
theorem questions_any (A : Option Addr) (n c k : Nat) (l : List T6) (w : World) (h : RdS11 w A n c l) (hk : k < n) :
    Calls Tryz.prog 57 #[.agg #[.slice A n c], .int .i64 k] w fun e w' => ∃ A' qs, e = .returned (.slice A' 7 7) ∧ RdQ w' A' 7 7 qs ∧ Asks n (l.take k) (l.getD k t60) qs w' ∧ Below w.heap.size w w' := by
  obtain ⟨b, o, t, rfl, hb, hx, hxr, hld⟩ := h.tab hk
  rw [getD_of hx]
  obtain ⟨w2, hw2⟩ : ∃ w2, w2 = (w.alloc (schBox (some ⟨b, o, none⟩) n c)).alloc (.cells #[.int .i64 k] 3) := ⟨_, rfl⟩
  obtain ⟨w3, hw3⟩ : ∃ w3, w3 = w2.alloc (tabBox t) := ⟨_, rfl⟩
  have hb2 : Below w.heap.size w w2 := by rw [hw2]; exact below_new (below_new (Below.refl _ _) _) _
  have hb23 : Below w2.heap.size w2 w3 := by rw [hw3]; exact below_new (Below.refl _ _) _
  have hb3 := below_then hb2 hb23
  have hs2 : w2.heap.size = w.heap.size + 1 + 1 := by rw [hw2]; simp
  have hs3 : w3.heap.size = w.heap.size + 1 + 1 + 1 := by rw [hw3, World.size_alloc, hs2]
  have S2 : w2.heap[w.heap.size]? = some (schBox (some ⟨b, o, none⟩) n c) := by rw [hw2, Below.heap_alloc _ _ _ (by simp)]; exact heap_alloc_new _ _
  have I2 : w2.heap[w.heap.size + 1]? = some (.cells #[.int .i64 k] 3) := by
    rw [hw2]
    have := heap_alloc_new (w.alloc (schBox (some ⟨b, o, none⟩) n c)) (.cells #[.int .i64 k] 3)
    rwa [World.size_alloc] at this
  have T3 : w3.heap[w.heap.size + 1 + 1]? = some (tabBox t) := by rw [hw3, ← hs2]; exact heap_alloc_new _ _
  have S3 := row_below S2 hb23; have I3 := row_below I2 hb23
  obtain ⟨Z, hZ⟩ : ∃ Z, Hid (Z = (#[.int .i64 1, .func (.func 82) #[] #[.pointer (some ⟨w.heap.size, 0, none⟩), .pointer (some ⟨w.heap.size + 1, 0, none⟩), .pointer (some ⟨w.heap.size + 1 + 1, 0, none⟩)],
    .int .i64 1, .func (.func 84) #[] #[.pointer (some ⟨w.heap.size + 1 + 1, 0, none⟩)],
    .int .i64 t.nc, .func (.func 86) #[] #[.pointer (some ⟨w.heap.size + 1 + 1, 0, none⟩)],
    .int .i64 1, .func (.func 88) #[] #[.pointer (some ⟨w.heap.size + 1 + 1, 0, none⟩)],
    .int .i64 t.nu, .func (.func 90) #[] #[.pointer (some ⟨w.heap.size + 1 + 1, 0, none⟩)],
    .int .i64 t.nf, .func (.func 92) #[] #[.pointer (some ⟨w.heap.size, 0, none⟩), .pointer (some ⟨w.heap.size + 1 + 1, 0, none⟩)],
    .int .i64 t.ns, .func (.func 94) #[] #[.pointer (some ⟨w.heap.size + 1 + 1, 0, none⟩)]] : Array Value)) := ⟨_, rfl⟩
  have hend : Hid (∃ A' qs, (some (⟨w.heap.size + 1 + 1 + 1, 0, none⟩ : Addr)) = A' ∧ RdQ (w3.alloc (.cells Z 110)) A' 7 7 qs ∧ Asks n (l.take k) t qs (w3.alloc (.cells Z 110)) ∧ Below w.heap.size w (w3.alloc (.cells Z 110))) := by
    have hbz : Below w3.heap.size w3 (w3.alloc (.cells Z 110)) := below_new (Below.refl _ _) _
    refine ⟨_, qList t w.heap.size (w.heap.size + 1) (w.heap.size + 1 + 1), rfl, ?_, ?_, below_then hb3 hbz⟩
    · exact rdg_new q2len w3 _ Z _ (by rw [hZ.out]; rfl) rfl (by omega) hs3
    · exact asks_of _ n c k l t _ _ _ _ ((h.below hb3).below hbz) hk ((hxr.below hb3).below hbz) (row_below S3 hbz) (row_below I3 hbz) (row_below T3 hbz)
  have HW2 := Lib.hid hw2; have HW3 := Lib.hid hw3
  have c0 := sch_row S2
  have i0 := int_row I2
  obtain ⟨d0, d1, d2, d3, d4, d5⟩ := hld w2 hb2
  obtain ⟨e0, e1, e2, e3, e4, e5⟩ := tab_row T3
  have HS3 := Lib.hid hs3
  have HS2 := Lib.hid hs2
  have y1 : (k : Int) < (n : Int) := by omega
  have y0 : (0 : Int) ≤ (k : Int) := by omega
  clear hw2 hw3 hb2 hb23 hb3 S2 I2 T3 S3 I3 h hb hx hxr hld hs2 hs3
  go_enter Tryz.func57, Tryz.ntmps57
  go_upto_region 1 with fail
  rw [show (w.alloc (schBox (some ⟨b, o, none⟩) n c)).alloc (.cells #[.int .i64 k] 3) = w2 from HW2.out.symm]
  clear HW2
  go_upto_region 2 with fail
  rw [HS2.out]
  rw [show w2.alloc (tabBox t) = w3 from HW3.out.symm]
  clear HW3 c0 i0 d0 d1 d2 d3 d4 d5
  go_wp2_with fail
  go_ret
  rw [HS3.out]
  obtain ⟨A', qs, h1, h2⟩ := hend.out
  exact ⟨A', qs, by rw [← h1]; rfl, by rw [hZ.out] at h2; exact h2⟩
end Go.Proofs.YtfljhnalmiibeaaGreat

namespace Go.Proofs.YtfljhnalmiibeaaGreat
set_option maxRecDepth 100000
open Go.RowKit
theorem firstE_one {n k : Nat} {f : Nat → Int} (hk : k < n) (h : ∀ i, i < k → f i = 0) (he : f k ≠ 0) : firstE n f = f k := firstE_at n k f hk h he
theorem zero_next {k : Nat} {f : Nat → Int} (h : ∀ i, i < k → f i = 0) (he : f k = 0) : ∀ i, i < k + 1 → f i = 0 := fun i hi => by
  by_cases e : i = k
  · subst e; exact he
  · exact h i (by omega)
theorem rightE_in {l : List T6} {n : Nat} (hl : l.length = n) (h1 : ¬ n = 0) (h2 : ¬ 16 < n) : rightE l = firstE n (fun i => tabErr n (l.take i) (l.getD i t60)) := by
  rw [rightE, hl, if_neg (by omega)]
theorem askE_le {w : World} {n : Nat} {a : List T6} {t : T6} (h : t.Reads w) (q : Nat) : (askE n a t q).1 ≤ 9223372036854775807 := by
  have h1 := h.cols.le; have h2 := h.uni.le; have h3 := h.fks.le; have h4 := h.sums.le
  match q with
  | 0 => simp [askE]
  | 1 => simp [askE]
  | 2 => exact h1
  | 3 => simp [askE]
  | 4 => exact h2
  | 5 => exact h3
  | 6 => exact h4
  | _ + 7 => simp [askE]
set_option maxHeartbeats 6400000 in
theorem right11_any (A : Option Addr) (n c : Nat) (l : List T6) (w : World) (h : RdS11 w A n c l) :
    Calls Tryz.prog 32 #[.agg #[.slice A n c]] w fun e w' => e = .returned (.int .i64 (rightE l)) ∧ Below w.heap.size w w' := by
  have hle := h.le
  have HL := Lib.hid h.len
  obtain ⟨w1, hw1⟩ : ∃ w1, w1 = w.alloc (schBox A n c) := ⟨_, rfl⟩
  have HW1 := Lib.hid hw1
  have HB1 : Hid (Below w.heap.size w w1) := by rw [hw1]; exact below_new (Below.refl _ _) _
  have R1 : Hid (w1.heap[w.heap.size]? = some (schBox A n c)) := by rw [hw1]; exact heap_alloc_new _ _
  have HR := Lib.hid (h.below HB1.out)
  obtain ⟨E, hE⟩ : ∃ E, Hid (rightE l = E) := ⟨_, rfl⟩
  rw [hE.out]
  have c0 := sch_row R1.out
  clear hw1 h
  go_enter Tryz.func32, Tryz.ntmps32
  go_upto_region 1 with fail
  rw [show w.alloc (schBox A n c) = w1 from HW1.out.symm]
  clear HW1
  go_step3
  by_cases hn0 : n = 0
  · have e0 : ((n : Int) == 0) = true := by simpa using hn0
    have hE2 : Hid (E = 2) := by show _ = _; rw [← hE.out, rightE, HL.out, if_pos (Or.inl hn0)]
    clear hn0
    go_wp2_with fail
    rw [Exit.noGoto_ret]
    go_ret
    exact ⟨ret_int hE2.out.symm, HB1.out⟩
  have e0 : ((n : Int) == 0) = false := by simpa using hn0
  by_cases hn16 : 16 < n
  · have e1 : (16 : Int) < (n : Int) := by omega
    have hE2 : Hid (E = 2) := by show _ = _; rw [← hE.out, rightE, HL.out, if_pos (Or.inr hn16)]
    clear hn0
    go_wp2_with fail
    rw [Exit.noGoto_ret]
    go_ret
    exact ⟨ret_int hE2.out.symm, HB1.out⟩
  have e1 : ¬ (16 : Int) < (n : Int) := by omega
  have hE2 : Hid (E = firstE n (fun i => tabErr n (l.take i) (l.getD i t60))) := by show _ = _; rw [← hE.out]; exact rightE_in HL.out hn0 hn16
  clear hn0 hn16 hE
  go_wp2_with fail
  go_step3
  go_wp2_with fail
  clear c0 e0 e1
  go_loopw [3, 21] (fun e i wr => ∃ k : Nat, k ≤ n ∧ i = .int .i64 k ∧ e = .int .i64 0 ∧ Hid (∀ j, j < k → tabErr n (l.take j) (l.getD j t60) = 0) ∧ Hid (Below w1.heap.size w1 wr)) (fun _ i _ => n - (intOf i).toNat)
  case atStart => exact ⟨0, Nat.zero_le _, rfl, rfl, by show ∀ j, _; intro j h; exact absurd h (by omega), Below.refl _ _⟩
  case round =>
    obtain ⟨k, hk, rfl, rfl, hA, KB⟩ := hrel
    have HB := Lib.hid (below_then HB1.out KB.out)
    by_cases hlt : k < n
    · have c0 := sch_row (row_below R1.out KB.out)
      have C := Lib.hid (questions_any A n c k l wr (HR.out.below KB.out) hlt)
      have y1 : (k : Int) < (n : Int) := by omega
      go_wp2_with fail
      refine C.out.mono ?_
      rintro e w2 ⟨Aq, qs, rfl, hq, hask, b2⟩
      have HQ := Lib.hid hq
      have HAS := Lib.hid hask
      have KB2 := Lib.hid (below_then KB.out b2)
      clear C b2 hq hask c0
      go_wp2_with fail
      go_loopw [3, 28] (fun e i wr2 => ∃ q : Nat, q ≤ 7 ∧ i = .int .i64 q ∧ e = .int .i64 0 ∧ Hid (∀ p, p < q → ask1 n (l.take k) (l.getD k t60) p = 0) ∧ Hid (Below w2.heap.size w2 wr2)) (fun _ i _ => 7 - (intOf i).toNat)
      case atStart => exact ⟨0, Nat.zero_le _, rfl, rfl, by show ∀ j, _; intro j h; exact absurd h (by omega), Below.refl _ _⟩
      case round =>
        obtain ⟨q, hq7, rfl, rfl, hP, QB⟩ := hrel
        by_cases hql : q < 7
        · obtain ⟨b, o, x, rfl, hb, hx, hld⟩ := HQ.out.qst hql
          obtain ⟨d0, d1⟩ := hld wr QB.out
          obtain ⟨hm, eg, hC⟩ := HAS.out.2 q x hx
          have HC := Lib.hid (hC hP.out)
          have hm2 := Lib.hid hm
          have hml : x.m ≤ 9223372036854775807 := by
            obtain ⟨_, _, t, _, _, htx, htr, _⟩ := HR.out.tab hlt
            rw [hm, getD_of htx]
            exact askE_le htr q
          have z1 : (q : Int) < 7 := by omega
          have z0 : (0 : Int) ≤ (q : Int) := by omega
          obtain ⟨w3, hw3⟩ : ∃ w3, w3 = wr.alloc (.cells #[.int .i64 x.m, .func (.func x.g) #[] x.cb] 110) := ⟨_, rfl⟩
          have HW3 := Lib.hid hw3
          have QB3 : Hid (Below w2.heap.size w2 w3) := by rw [hw3]; exact below_new QB.out _
          have R3 : Hid (w3.heap[wr.heap.size]? = some (.cells #[.int .i64 x.m, .func (.func x.g) #[] x.cb] 110)) := by rw [hw3]; exact heap_alloc_new _ _
          clear hld hb hx hC hm hw3
          go_upto_region 10 with fail
          rw [show wr.alloc (.cells #[.int .i64 x.m, .func (.func x.g) #[] x.cb] 110) = w3 from HW3.out.symm]
          clear HW3 d0 d1
          generalize wr.heap.size = gx at R3 ⊢
          have f0 : w3.cell? ⟨gx, 0, none⟩ = some (.int .i64 x.m) := cell_row R3.out 0
          go_wp2_with fail
          clear f0
          go_loopw [3, 34] (fun e i wq => ∃ j : Nat, j ≤ x.m ∧ i = .int .i64 j ∧ e = .int .i64 0 ∧ Hid (∀ p, p < j → (askE n (l.take k) (l.getD k t60) q).2 p = 0) ∧ Hid (Below w3.heap.size w3 wq)) (fun _ i _ => x.m - (intOf i).toNat)
          case atStart => exact ⟨0, Nat.zero_le _, rfl, rfl, by show ∀ j, _; intro j h; exact absurd h (by omega), Below.refl _ _⟩
          case round =>
            obtain ⟨j, hj, rfl, rfl, hF, JB⟩ := hrel
            by_cases hjm : j < x.m
            · have f1 : wr.cell? ⟨gx, 1, none⟩ = some (.func (.func x.g) #[] x.cb) := cell_row (row_below R3.out JB.out) 1
              obtain ⟨r, hr⟩ : ∃ r, Hid ((askE n (l.take k) (l.getD k t60) q).2 j = r) := ⟨_, rfl⟩
              have CC : Hid (Calls Tryz.prog x.g (#[.int .i64 j] ++ x.cb) wr fun e W' => e = .returned (.int .i64 r) ∧ Below wr.heap.size wr W') := by
                rw [← hr.out]; exact HC.out wr (below_then QB3.out JB.out) j hjm
              have v1 : (j : Int) < (x.m : Int) := by omega
              go_wp2_with fail
              refine CC.out.mono ?_
              rintro e w4 ⟨rfl, b4⟩
              have JB4 := Lib.hid (below_then JB.out b4)
              have HB4 := Lib.hid (below_then HB1.out (below_then KB2.out (below_then QB3.out JB4.out)))
              clear CC b4 f1
              by_cases hr0 : r = 0
              · subst hr0
                have hF2 : Hid (∀ p, p < j + 1 → (askE n (l.take k) (l.getD k t60) q).2 p = 0) := by show ∀ p, _; exact zero_next hF.out hr.out
                clear hr
                go_wp2_with fail
                exact ⟨⟨j + 1, by omega, by go_num, rfl, hF2, JB4⟩, by simp [intOf]; omega⟩
              · have hf : Hid (E = r) := by
                  show _ = _
                  have h1 : ask1 n (l.take k) (l.getD k t60) q = r := by
                    rw [ask1, firstE_one (k := j) (by rw [← hm2.out]; exact hjm) hF.out (by rw [hr.out]; exact hr0), hr.out]
                  have h2 : tabErr n (l.take k) (l.getD k t60) = r := by
                    rw [tabErr, firstE_one (k := q) hql hP.out (by rw [h1]; exact hr0), h1]
                  rw [hE2.out, firstE_one (k := k) hlt hA.out (by rw [h2]; exact hr0), h2]
                have q0 := beq_no hr0
                have q1 : (r != 0) = true := by simp [bne, q0]
                clear hr0
                go_wp2_with fail
                try rw [Exit.noGoto_ret]
                go_ret
                exact ⟨ret_int hf.out.symm, HB4.out⟩
            · obtain rfl : j = x.m := by omega
              have v1 : ¬ (x.m : Int) < (x.m : Int) := by omega
              have hP2 : Hid (∀ p, p < q + 1 → ask1 n (l.take k) (l.getD k t60) p = 0) := by
                show ∀ p, _
                refine zero_next hP.out ?_
                rw [ask1, firstE_zero, ← hm2.out]
                exact hF.out
              have QB4 := Lib.hid (below_then QB3.out JB.out)
              go_wp2_with fail
              exact ⟨⟨q + 1, by omega, by go_num, rfl, hP2, QB4⟩, by simp [intOf]; omega⟩
        · obtain rfl : q = 7 := by omega
          have hA2 : Hid (∀ j, j < k + 1 → tabErr n (l.take j) (l.getD j t60) = 0) := by
            show ∀ j, _
            refine zero_next hA.out ?_
            rw [tabErr, firstE_zero]
            exact hP.out
          have KB3 := Lib.hid (below_then KB2.out QB.out)
          go_wp2_with fail
          exact ⟨⟨k + 1, by omega, by go_num, rfl, hA2, KB3⟩, by simp [intOf]; omega⟩
    · obtain rfl : k = n := by omega
      have y1 : ¬ (k : Int) < (k : Int) := by omega
      have hf : Hid (E = 0) := by show _ = _; rw [hE2.out, firstE_zero]; exact hA.out
      go_wp2_with fail
      go_ret
      exact ⟨ret_int hf.out.symm, HB.out⟩
end Go.Proofs.YtfljhnalmiibeaaGreat

namespace Go.Proofs.YtfljhnalmiibeaaGreat
set_option maxRecDepth 100000
open Go.ChangeShapes Go.WideShapes Go.ChangeAt Go.RowKit
theorem weightsAll_mem {H : Type} {P : Program} {e : TypeId} : ∀ {l : List (DataW H)} {d : DataW H}, d ∈ l → ∀ n ∈ d.weights P e, n ∈ DataW.weightsAll P e l
  | x :: l, d, h, n, hn => by
    simp only [DataW.weightsAll, List.mem_append]
    rcases List.mem_cons.1 h with rfl | h
    · exact .inl hn
    · exact .inr (weightsAll_mem h n hn)
/-- a slice whose elements take several cells each, within something that came in, and its size -/
theorem open_sgz {α : Type} {enc : α → List Value} {sz : Nat} {ok : α → Prop} [Inhabited α] {H : Type} {e' : TypeId × Value → H} {P : Program} {W : World} {t e : TypeId} (ht : P.underlying t = some (.slice e)) (hc : P.cellsOf e = sz) (hb : 1 ≤ P.bytesOf e)
    (hel : ∀ (n : Nat) (cs : List Value) r, DataW.trod e' P W 0 (fun _ => true) true n e cs = some r → (∀ x ∈ r.1.weights P e, x ≤ reachBytes) → ∃ x, cs = enc x ∧ ok x)
    {fuel : Nat} {cs : List Value} {r} (hf : DataW.trod e' P W 0 (fun _ => true) true fuel t cs = some r) (hw : ∀ x ∈ r.1.weights P t, x ≤ reachBytes) (h1 : 1 ≤ sz) :
    ∃ A n c l, cs = [.slice A n c] ∧ RdG enc sz W A n c l ∧ (∀ x ∈ l, ok x) ∧ n ≤ 140737488351232 := by
  rcases Go.Deep.open_slice ht hf with ⟨rfl, _⟩ | ⟨a, len, cap, m, n, D, Pl, rfl, _, hl, hm, hmm, rfl, hx⟩
  · exact ⟨none, 0, 0, [], rfl, RdG.nil_ _, by simp, by omega⟩
  · simp only [if_true] at hmm
    subst hmm
    rw [hc] at hx
    have hwd : ∀ i, i < len → ∀ x ∈ (D i).weights P e, x ≤ reachBytes := fun i hi x hx2 => hw x (by
      simp only [DataW.weights, ht, List.mem_cons, List.mem_append]
      exact .inr (.inl (weightsAll_mem (List.mem_map.2 ⟨i, List.mem_range.2 hi, rfl⟩) x hx2)))
    have hn : len ≤ 140737488351232 := by
      have := hw ((((List.range len).map D).length + ((List.range (m - len)).map fun j => D (len + j)).length) * P.bytesOf e) (by simp [DataW.weights, ht])
      simp only [List.length_map, List.length_range, reachBytes] at this
      have h2 : len * 1 ≤ (len + (m - len)) * P.bytesOf e := Nat.mul_le_mul (by omega) hb
      omega
    obtain ⟨X, hX⟩ := Go.Deep.choose_lt (n := len) (p := fun i x => W.cells? 0 (a.add (i * sz)) sz = some (enc x) ∧ ok x) (fun i hi => by
      obtain ⟨cs', h2, h3⟩ := hx i (by omega)
      obtain ⟨x, rfl, ho⟩ := hel _ _ _ h3 (hwd i hi)
      exact ⟨x, h2, ho⟩)
    refine ⟨some a, _, _, (List.range len).map X, rfl, ⟨by simp, hl, hm, fun h0 => ?_⟩, ?_, hn⟩
    · obtain ⟨b, off, spot⟩ := a
      have hcell : ∀ i, i < len → ∀ q v, (enc (X i))[q]? = some v → W.cell? ((⟨b, off, spot⟩ : Addr).add (i * sz + q)) = some v := by
        intro i hi q v hv
        obtain ⟨_, hlen, hcs⟩ := World.cells?_some (hX i hi).1
        have hq : q < sz := by rw [← hlen]; exact (List.getElem?_eq_some_iff.1 hv).1
        have := hcs q hq
        rw [Go.Deep.add_add] at this
        rw [this, hv]
      obtain ⟨_, hlen0, _⟩ := World.cells?_some (hX 0 h0).1
      have h00 := hcell 0 h0 0 _ (List.getElem?_eq_getElem (by rw [hlen0]; omega))
      have hspot : spot = none := by
        have := World.cell?_spot h00
        simpa [Addr.add] using this
      subst hspot
      have hb : b < W.heap.size := by
        have := block_lt_of_cell h00
        simpa [Addr.add] using this
      refine ⟨b, off, rfl, hb, fun j hj i v hv => ?_⟩
      simp only [List.length_map, List.length_range] at hj
      rw [List.getElem_map, List.getElem_range] at hv
      have h2 := hcell j hj i v hv
      have h3 : (⟨b, off, none⟩ : Addr).add (j * sz + i) = ⟨b, off + j * sz + i, none⟩ := by unfold Addr.add; by_cases hz : j * sz + i = 0 <;> simp [hz, Nat.add_assoc] <;> omega
      rw [h3] at h2
      exact h2
    · intro x hx'
      rw [List.mem_map] at hx'
      obtain ⟨i, hi, rfl⟩ := hx'
      exact (hX i (List.mem_range.1 hi)).2
def intC11 (z : Int) : List Value := [.int .i64 z]
theorem rd_of_g {w : World} {A : Option Addr} {n c : Nat} {l : List Int} (h : RdG intC11 1 w A n c l) : Rd w A n c (vals .i64 l) := by
  obtain ⟨hl, h1, h2, hx⟩ := h
  refine ⟨by simpa using hl, h1, h2, fun h0 => ?_⟩
  obtain ⟨b, o, rfl, hb, hc⟩ := hx h0
  refine ⟨b, o, rfl, hb, fun j hj => ?_⟩
  have hj2 : j < l.length := by simpa using hj
  have := hc j hj2 0 _ rfl
  rw [Nat.mul_one, Nat.add_zero] at this
  rw [this]
  simp
instance : Inhabited F3 := ⟨⟨0, 0, 0⟩⟩
instance : Inhabited T6 := ⟨⟨⟨#[]⟩, none, 0, 0, [], none, 0, 0, [], none, 0, 0, none, 0, 0, [], none, 0, 0, []⟩⟩
theorem Tryz.cellsT : Tryz.prog.cellsOf 66 = 6 := by kernel_rfl
theorem Tryz.cellsFk : Tryz.prog.cellsOf 158 = 3 := by kernel_rfl
theorem Tryz.cellsSm : Tryz.prog.cellsOf 160 = 3 := by kernel_rfl
theorem Tryz.cellsCs : Tryz.prog.cellsOf 60 = 1 := by kernel_rfl
theorem Tryz.cellsIs : Tryz.prog.cellsOf 61 = 1 := by kernel_rfl
theorem Tryz.cellsEs : Tryz.prog.cellsOf 62 = 1 := by kernel_rfl
theorem Tryz.cellsFs : Tryz.prog.cellsOf 63 = 1 := by kernel_rfl
theorem Tryz.cellsSs : Tryz.prog.cellsOf 64 = 1 := by kernel_rfl
theorem int_cells11 {H : Type} {enc : TypeId × Value → H} {W : World} (n : Nat) (cs : List Value) (r) (h : DataW.trod enc Tryz.prog W 0 (fun _ => true) true n 3 cs = some r) : ∃ x : Int, cs = intC11 x ∧ True := by
  obtain ⟨k, e0, _, _⟩ := DataW.trod_int Tryz.underlying3 h
  exact ⟨k, e0, trivial⟩
theorem fk_cells {H : Type} {enc : TypeId × Value → H} {W : World} (n : Nat) (cs : List Value) (r) (h : DataW.trod enc Tryz.prog W 0 (fun _ => true) true n 158 cs = some r) : ∃ x : F3, cs = x.cells ∧ True := by
  obtain ⟨y0, y1, y2, m, _, hl, h0, h1, h2⟩ := Go.Deep.trod_struct3 Tryz.underlying158 h
  rw [Tryz.cellsFk] at hl
  match cs, hl with
  | [a, b, c], _ =>
    simp only [Tryz.cellsI] at h0 h1 h2
    obtain ⟨k, e0, _, w0⟩ := DataW.trod_int Tryz.underlying3 h0
    obtain ⟨n', e1, _, w1⟩ := DataW.trod_int Tryz.underlying3 h1
    obtain ⟨s, e2, _, w2⟩ := DataW.trod_int Tryz.underlying3 h2
    simp at e0 e1 e2
    subst e0 e1 e2
    exact ⟨⟨k, n', s⟩, rfl, trivial⟩
theorem sm_cells {H : Type} {enc : TypeId × Value → H} {W : World} (n : Nat) (cs : List Value) (r) (h : DataW.trod enc Tryz.prog W 0 (fun _ => true) true n 160 cs = some r) : ∃ x : F3, cs = x.cells ∧ True := by
  obtain ⟨y0, y1, y2, m, _, hl, h0, h1, h2⟩ := Go.Deep.trod_struct3 Tryz.underlying160 h
  rw [Tryz.cellsSm] at hl
  match cs, hl with
  | [a, b, c], _ =>
    simp only [Tryz.cellsI] at h0 h1 h2
    obtain ⟨k, e0, _, w0⟩ := DataW.trod_int Tryz.underlying3 h0
    obtain ⟨n', e1, _, w1⟩ := DataW.trod_int Tryz.underlying3 h1
    obtain ⟨s, e2, _, w2⟩ := DataW.trod_int Tryz.underlying3 h2
    simp at e0 e1 e2
    subst e0 e1 e2
    exact ⟨⟨k, n', s⟩, rfl, trivial⟩
/-- a slice of which no more is asked -/
theorem open_bare {H : Type} {e' : TypeId × Value → H} {P : Program} {W : World} {t e : TypeId} (ht : P.underlying t = some (.slice e)) (hb : 1 ≤ P.bytesOf e)
    {fuel : Nat} {cs : List Value} {r} (hf : DataW.trod e' P W 0 (fun _ => true) true fuel t cs = some r) (hw : ∀ x ∈ r.1.weights P t, x ≤ reachBytes) : ∃ A n c, cs = [.slice A n c] ∧ (n ≤ c ∧ c ≤ maxLen) ∧ n ≤ 140737488351232 := by
  rcases Go.Deep.open_slice ht hf with ⟨rfl, _⟩ | ⟨a, len, cap, m, n, D, Pl, rfl, _, hl, hm, hmm, rfl, _⟩
  · exact ⟨none, 0, 0, rfl, ⟨Nat.le_refl _, Nat.zero_le _⟩, by omega⟩
  · refine ⟨_, _, _, rfl, ⟨hl, hm⟩, ?_⟩
    have := hw ((((List.range len).map D).length + ((List.range (m - len)).map fun j => D (len + j)).length) * P.bytesOf e) (by simp [DataW.weights, ht])
    simp only [List.length_map, List.length_range, reachBytes] at this
    have h2 : len * 1 ≤ (len + (m - len)) * P.bytesOf e := Nat.mul_le_mul (by omega) hb
    omega
theorem tab_cells {H : Type} {enc : TypeId × Value → H} {W : World} (n : Nat) (cs : List Value) (r) (h : DataW.trod enc Tryz.prog W 0 (fun _ => true) true n 66 cs = some r) (hw : ∀ x ∈ r.1.weights Tryz.prog 66, x ≤ reachBytes) : ∃ x : T6, cs = x.cells ∧ (x.Reads W ∧ x.Small) := by
  obtain ⟨xs, m, _, rfl, hl, hlen, hf⟩ := DataW.trod_struct Tryz.underlying66 h
  rw [Tryz.cellsT] at hl
  match xs, hlen with
  | [y0, y1, y2, y3, y4, y5], _ =>
    have hwp : ∀ x, (x ∈ y1.1.weights Tryz.prog 60 ∨ x ∈ y2.1.weights Tryz.prog 61 ∨ x ∈ y3.1.weights Tryz.prog 62 ∨ x ∈ y4.1.weights Tryz.prog 63 ∨ x ∈ y5.1.weights Tryz.prog 64) → x ≤ reachBytes := fun x hx => hw x (by
      simp only [DataW.weights, Tryz.underlying66]
      show x ∈ _ ++ (_ ++ (_ ++ (_ ++ (_ ++ (_ ++ _)))))
      simp only [List.mem_append]
      rcases hx with h | h | h | h | h
      · exact .inr (.inl h)
      · exact .inr (.inr (.inl h))
      · exact .inr (.inr (.inr (.inl h)))
      · exact .inr (.inr (.inr (.inr (.inl h))))
      · exact .inr (.inr (.inr (.inr (.inr (.inl h))))))
    match cs, hl with
    | [c0, c1, c2, c3, c4, c5], _ =>
      have h0 : DataW.trod enc Tryz.prog W 0 (fun _ => true) true m 9 (List.take (Tryz.prog.cellsOf 9) (List.drop 0 [c0, c1, c2, c3, c4, c5])) = some y0 := hf 0 _ rfl
      have h1 : DataW.trod enc Tryz.prog W 0 (fun _ => true) true m 60 (List.take (Tryz.prog.cellsOf 60) (List.drop 1 [c0, c1, c2, c3, c4, c5])) = some y1 := hf 1 _ rfl
      have h2 : DataW.trod enc Tryz.prog W 0 (fun _ => true) true m 61 (List.take (Tryz.prog.cellsOf 61) (List.drop 2 [c0, c1, c2, c3, c4, c5])) = some y2 := hf 2 _ rfl
      have h3 : DataW.trod enc Tryz.prog W 0 (fun _ => true) true m 62 (List.take (Tryz.prog.cellsOf 62) (List.drop 3 [c0, c1, c2, c3, c4, c5])) = some y3 := hf 3 _ rfl
      have h4 : DataW.trod enc Tryz.prog W 0 (fun _ => true) true m 63 (List.take (Tryz.prog.cellsOf 63) (List.drop 4 [c0, c1, c2, c3, c4, c5])) = some y4 := hf 4 _ rfl
      have h5 : DataW.trod enc Tryz.prog W 0 (fun _ => true) true m 64 (List.take (Tryz.prog.cellsOf 64) (List.drop 5 [c0, c1, c2, c3, c4, c5])) = some y5 := hf 5 _ rfl
      simp only [Tryz.cellsS, Tryz.cellsCs, Tryz.cellsIs, Tryz.cellsEs, Tryz.cellsFs, Tryz.cellsSs, List.drop_zero, List.drop_succ_cons, List.take_succ_cons, List.take_zero] at h0 h1 h2 h3 h4 h5
      obtain ⟨s, e0, _, _⟩ := DataW.trod_string Tryz.underlying9 h0
      obtain ⟨A1, n1, k1, l1, e1, r1, _, z1⟩ := open_sgz (α := C4) (ok := fun _ => True) Tryz.underlying60 Tryz.cellsC (by decide +kernel) (fun n cs r h _ => col_cells n cs r h) h1 (fun x hx => hwp x (.inl hx)) (by decide)
      obtain ⟨A2, n2, k2, l2, e2, r2, _, z2⟩ := open_sgz (α := Int) (ok := fun _ => True) Tryz.underlying61 Tryz.cellsI (by decide +kernel) (fun n cs r h _ => int_cells11 n cs r h) h2 (fun x hx => hwp x (.inr (.inl hx))) (by decide)
      obtain ⟨A3, n3, k3, e3, r3, z3⟩ := open_bare Tryz.underlying62 (by decide +kernel) h3 (fun x hx => hwp x (.inr (.inr (.inl hx))))
      obtain ⟨A4, n4, k4, l4, e4, r4, _, z4⟩ := open_sgz (α := F3) (ok := fun _ => True) Tryz.underlying63 Tryz.cellsFk (by decide +kernel) (fun n cs r h _ => fk_cells n cs r h) h4 (fun x hx => hwp x (.inr (.inr (.inr (.inl hx))))) (by decide)
      obtain ⟨A5, n5, k5, l5, e5, r5, _, z5⟩ := open_sgz (α := F3) (ok := fun _ => True) Tryz.underlying64 Tryz.cellsSm (by decide +kernel) (fun n cs r h _ => sm_cells n cs r h) h5 (fun x hx => hwp x (.inr (.inr (.inr (.inr hx))))) (by decide)
      simp only [List.cons.injEq, and_true] at e0 e1 e2 e3 e4 e5
      subst e0 e1 e2 e3 e4 e5
      refine ⟨⟨s, A1, n1, k1, l1, A2, n2, k2, l2, A3, n3, k3, A4, n4, k4, l4, A5, n5, k5, l5⟩, rfl, ⟨r1, rd_of_g r2, r3, r4, r5⟩, ?_⟩
      show n1 + n2 + n3 + n4 + n5 ≤ 1000000000000000
      omega
/-- a schema that came in -/
theorem open_schema {H : Type} {enc : TypeId × Value → H} {W : World} {base : Nat} {v : Value} {d : DataW H} {ps : List MemPlace} (hval : Value.okWide Tryz.prog W .any base 24 v) (h : DataW.Trod enc Tryz.prog W 0 (fun _ => true) true 24 v d ps) (hw : ∀ x ∈ d.weights Tryz.prog 24, x ≤ reachBytes) :
    ∃ A n c l, v = .agg #[.slice A n c] ∧ RdS11 W A n c l ∧ ∀ t ∈ l, t.Small := by
  obtain ⟨cs, rfl, hsz⟩ := okWide_struct Tryz.underlying24 hval
  obtain ⟨fuel, hf⟩ := h
  obtain ⟨xs, m, _, hd, hl, hlen, hf⟩ := DataW.trod_struct Tryz.underlying24 hf
  have hc1 : Tryz.prog.cellsOf 24 = 1 := by kernel_rfl
  have hc2 : Tryz.prog.cellsOf 22 = 1 := by kernel_rfl
  rw [hc1] at hsz
  obtain ⟨c0, rfl⟩ : ∃ c0, cs = #[c0] := by
    obtain ⟨l⟩ := cs
    match l, hsz with
    | [a], _ => exact ⟨a, rfl⟩
  match xs, hlen with
  | [y0], _ =>
    have h0 : DataW.trod enc Tryz.prog W 0 (fun _ => true) true m 22 (List.take (Tryz.prog.cellsOf 22) (List.drop 0 [c0])) = some y0 := hf 0 _ rfl
    simp only [hc2, List.drop_zero, List.take_succ_cons, List.take_zero] at h0
    simp only [Prod.mk.injEq] at hd
    have hd1 := hd.1
    subst hd1
    have hw0 : ∀ x ∈ y0.1.weights Tryz.prog 22, x ≤ reachBytes := fun x hx => hw x (by
      simp only [DataW.weights, Tryz.underlying24]
      show x ∈ _ ++ _
      simp only [List.mem_append]
      exact .inl hx)
    obtain ⟨A, n, c, l, e0, r0, ok, _⟩ := open_sgz (α := T6) (ok := fun t => t.Reads W ∧ t.Small) Tryz.underlying22 Tryz.cellsT (by decide +kernel) tab_cells h0 hw0 (by decide)
    simp only [List.cons.injEq, and_true] at e0
    subst e0
    exact ⟨A, n, c, l, rfl, ⟨r0, fun t ht => (ok t ht).1⟩, fun t ht => (ok t ht).2⟩
end Go.Proofs.YtfljhnalmiibeaaGreat

