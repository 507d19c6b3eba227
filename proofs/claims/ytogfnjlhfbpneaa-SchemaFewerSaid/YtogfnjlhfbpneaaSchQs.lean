/- Layer 11: questions: the seven, in their order. -/
import Derived.Test.YtogfnjlhfbpneaaSchAsk
namespace Go.Proofs.Ytogfnjlhfbpneaa
set_option maxRecDepth 100000
open Go.RowKit

/-- a question: how often it is asked, and the closure -/
structure Q2 where
  m : Nat
  g : Nat
  cb : Array Value
def Q2.cells (q : Q2) : List Value := [.int .i64 q.m, .func (.func q.g) #[] q.cb]
theorem q2len (q : Q2) : q.cells.length = 2 := rfl
abbrev RdQ (w : World) (A : Option Addr) (n c : Nat) (l : List Q2) : Prop := RdG Q2.cells 2 w A n c l
theorem RdG.qst {w : World} {A : Option Addr} {n c : Nat} {l : List Q2} (h : RdQ w A n c l) {k : Nat} (hk : k < n) :
    ∃ b o x, A = some ⟨b, o, none⟩ ∧ b < w.heap.size ∧ l[k]? = some x ∧ ∀ w', Below w.heap.size w w' → w'.cell? ⟨b, o + k * 2, none⟩ = some (.int .i64 x.m) ∧ w'.cell? ⟨b, o + k * 2 + 1, none⟩ = some (.func (.func x.g) #[] x.cb) := by
  obtain ⟨b, o, x, rfl, hb, hx, hc⟩ := h.at_ hk
  exact ⟨b, o, x, rfl, hb, hx, fun w' hw => ⟨(hw.cell hb).trans (hc 0 _ rfl), (hw.cell hb).trans (hc 1 _ rfl)⟩⟩

def qList (t : T6) (gs gi gt : Nat) : List Q2 :=
  [⟨1, 34, #[.pointer (some ⟨gs, 0, none⟩), .pointer (some ⟨gi, 0, none⟩), .pointer (some ⟨gt, 0, none⟩)]⟩,
   ⟨1, 36, #[.pointer (some ⟨gt, 0, none⟩)]⟩,
   ⟨t.nc, 38, #[.pointer (some ⟨gt, 0, none⟩)]⟩,
   ⟨1, 40, #[.pointer (some ⟨gt, 0, none⟩)]⟩,
   ⟨t.nu, 42, #[.pointer (some ⟨gt, 0, none⟩)]⟩,
   ⟨t.nf, 44, #[.pointer (some ⟨gs, 0, none⟩), .pointer (some ⟨gt, 0, none⟩)]⟩,
   ⟨t.ns, 46, #[.pointer (some ⟨gt, 0, none⟩)]⟩]
/-- the questions are those that are asked of the table -/
def Asks (n : Nat) (ahead : List T6) (t : T6) (qs : List Q2) (w : World) : Prop :=
  qs.length = 7 ∧ ∀ (q : Nat) (x : Q2), qs[q]? = some x → x.m = (askE n ahead t q).1 ∧ (∀ args w, (callFunc x.g args).run Try.prog w = .ok (.enter x.g args) w) ∧
    ((∀ p, p < q → ask1 n ahead t p = 0) → AskC Try.prog x.g x.cb x.m (askE n ahead t q).2 w)

theorem Try.egAsk1 : ∀ args w, (callFunc 34 args).run Try.prog w = .ok (.enter 34 args) w := enters_of Try.func34 (by kernel_rfl) rfl
theorem Try.egAsk2 : ∀ args w, (callFunc 36 args).run Try.prog w = .ok (.enter 36 args) w := enters_of Try.func36 (by kernel_rfl) rfl
theorem Try.egAsk3 : ∀ args w, (callFunc 38 args).run Try.prog w = .ok (.enter 38 args) w := enters_of Try.func38 (by kernel_rfl) rfl
theorem Try.egAsk4 : ∀ args w, (callFunc 40 args).run Try.prog w = .ok (.enter 40 args) w := enters_of Try.func40 (by kernel_rfl) rfl
theorem Try.egAsk5 : ∀ args w, (callFunc 42 args).run Try.prog w = .ok (.enter 42 args) w := enters_of Try.func42 (by kernel_rfl) rfl
theorem Try.egAsk6 : ∀ args w, (callFunc 44 args).run Try.prog w = .ok (.enter 44 args) w := enters_of Try.func44 (by kernel_rfl) rfl
theorem Try.egAsk7 : ∀ args w, (callFunc 46 args).run Try.prog w = .ok (.enter 46 args) w := enters_of Try.func46 (by kernel_rfl) rfl

theorem asks_of (A : Option Addr) (n c k : Nat) (l : List T6) (t : T6) (gs gi gt : Nat) (w : World) (h : RdS w A n c l) (hk : k < n) (ht : t.Reads w) (hs : w.heap[gs]? = some (schBox A n c)) (hi : w.heap[gi]? = some (.cells #[.int .i64 k] 3)) (hg : w.heap[gt]? = some (tabBox t)) :
    Asks n (l.take k) t (qList t gs gi gt) w := by
  refine ⟨rfl, fun q x hx => ?_⟩
  match q, hx with
  | 0, hx => cases hx; exact ⟨rfl, Try.egAsk1, fun _ => ask1_any A n c k l t gs gi gt w h hk hs hi hg⟩
  | 1, hx => cases hx; exact ⟨rfl, Try.egAsk2, fun _ => ask2_any t gt w hg⟩
  | 2, hx => cases hx; exact ⟨rfl, Try.egAsk3, fun _ => ask3_any t gt w ht hg⟩
  | 3, hx =>
    cases hx
    refine ⟨rfl, Try.egAsk4, fun h0 => ask4_any t gt w ht ?_ hg⟩
    have h1 : sizeErr t = 0 := by
      by_cases he : sizeErr t = 0
      · exact he
      · have := h0 1 (by omega)
        simp only [ask1, askE, firstE, if_neg he] at this
        exact absurd this he
    rcases Nat.eq_zero_or_pos t.nc with h2 | h2
    · rw [sizeErr, if_pos (Or.inl h2)] at h1; exact absurd h1 (by decide)
    · exact h2
  | 4, hx => cases hx; exact ⟨rfl, Try.egAsk5, fun _ => ask5_any t gt w ht hg⟩
  | 5, hx => cases hx; exact ⟨rfl, Try.egAsk6, fun _ => ask6_any A n c gs t gt w hs ht hg⟩
  | 6, hx => cases hx; exact ⟨rfl, Try.egAsk7, fun _ => ask7_any t gt w ht hg⟩
  | q + 7, hx => simp [qList] at hx

set_option maxHeartbeats 3200000 in
theorem questions_any (A : Option Addr) (n c k : Nat) (l : List T6) (w : World) (h : RdS w A n c l) (hk : k < n) :
    Calls Try.prog 27 #[.agg #[.slice A n c], .int .i64 k] w fun e w' => ∃ A' qs, e = .returned (.slice A' 7 7) ∧ RdQ w' A' 7 7 qs ∧ Asks n (l.take k) (l.getD k t60) qs w' ∧ Below w.heap.size w w' := by
  obtain ⟨b, o, t, rfl, hb, hx, hxr, hld⟩ := h.tab hk
  rw [getD_of hx]
  obtain ⟨w2, hw2⟩ : ∃ w2, w2 = (w.alloc (schBox (some ⟨b, o, none⟩) n c)).alloc (.cells #[.int .i64 k] 3) := ⟨_, rfl⟩
  obtain ⟨w3, hw3⟩ : ∃ w3, w3 = w2.alloc (tabBox t) := ⟨_, rfl⟩
  have hb2 : Below w.heap.size w w2 := by rw [hw2]; exact below_new (below_new (Below.refl _ _) _) _
  have hb23 : Below w2.heap.size w2 w3 := by rw [hw3]; exact below_new (Below.refl _ _) _
  have hb3 := below_then hb2 hb23
  have hs2 : w2.heap.size = w.heap.size + 1 + 1 := by rw [hw2]; simp
  have hs3 : w3.heap.size = w.heap.size + 1 + 1 + 1 := by rw [hw3, World.size_alloc, hs2]
  have S2 : w2.heap[w.heap.size]? = some (schBox (some ⟨b, o, none⟩) n c) := by rw [hw2, Below.heap_alloc _ _ _ (by simp)]; exact heap_alloc_new _ _
  have I2 : w2.heap[w.heap.size + 1]? = some (.cells #[.int .i64 k] 3) := by
    rw [hw2]
    have := heap_alloc_new (w.alloc (schBox (some ⟨b, o, none⟩) n c)) (.cells #[.int .i64 k] 3)
    rwa [World.size_alloc] at this
  have T3 : w3.heap[w.heap.size + 1 + 1]? = some (tabBox t) := by rw [hw3, ← hs2]; exact heap_alloc_new _ _
  have S3 := row_below S2 hb23; have I3 := row_below I2 hb23
  obtain ⟨Z, hZ⟩ : ∃ Z, Hid (Z = (#[.int .i64 1, .func (.func 34) #[] #[.pointer (some ⟨w.heap.size, 0, none⟩), .pointer (some ⟨w.heap.size + 1, 0, none⟩), .pointer (some ⟨w.heap.size + 1 + 1, 0, none⟩)],
    .int .i64 1, .func (.func 36) #[] #[.pointer (some ⟨w.heap.size + 1 + 1, 0, none⟩)],
    .int .i64 t.nc, .func (.func 38) #[] #[.pointer (some ⟨w.heap.size + 1 + 1, 0, none⟩)],
    .int .i64 1, .func (.func 40) #[] #[.pointer (some ⟨w.heap.size + 1 + 1, 0, none⟩)],
    .int .i64 t.nu, .func (.func 42) #[] #[.pointer (some ⟨w.heap.size + 1 + 1, 0, none⟩)],
    .int .i64 t.nf, .func (.func 44) #[] #[.pointer (some ⟨w.heap.size, 0, none⟩), .pointer (some ⟨w.heap.size + 1 + 1, 0, none⟩)],
    .int .i64 t.ns, .func (.func 46) #[] #[.pointer (some ⟨w.heap.size + 1 + 1, 0, none⟩)]] : Array Value)) := ⟨_, rfl⟩
  have hend : Hid (∃ A' qs, (some (⟨w.heap.size + 1 + 1 + 1, 0, none⟩ : Addr)) = A' ∧ RdQ (w3.alloc (.cells Z 58)) A' 7 7 qs ∧ Asks n (l.take k) t qs (w3.alloc (.cells Z 58)) ∧ Below w.heap.size w (w3.alloc (.cells Z 58))) := by
    have hbz : Below w3.heap.size w3 (w3.alloc (.cells Z 58)) := below_new (Below.refl _ _) _
    refine ⟨_, qList t w.heap.size (w.heap.size + 1) (w.heap.size + 1 + 1), rfl, ?_, ?_, below_then hb3 hbz⟩
    · exact rdg_new q2len w3 _ Z _ (by rw [hZ.out]; rfl) rfl (by omega) hs3
    · exact asks_of _ n c k l t _ _ _ _ ((h.below hb3).below hbz) hk ((hxr.below hb3).below hbz) (row_below S3 hbz) (row_below I3 hbz) (row_below T3 hbz)
  have HW2 := Lib.hid hw2; have HW3 := Lib.hid hw3
  have c0 := sch_row S2
  have i0 := int_row I2
  obtain ⟨d0, d1, d2, d3, d4, d5⟩ := hld w2 hb2
  obtain ⟨e0, e1, e2, e3, e4, e5⟩ := tab_row T3
  have HS3 := Lib.hid hs3
  have HS2 := Lib.hid hs2
  have y1 : (k : Int) < (n : Int) := by omega
  have y0 : (0 : Int) ≤ (k : Int) := by omega
  clear hw2 hw3 hb2 hb23 hb3 S2 I2 T3 S3 I3 h hb hx hxr hld hs2 hs3
  go_enter Try.func27, Try.ntmps27
  go_upto_region 1 with fail
  rw [show (w.alloc (schBox (some ⟨b, o, none⟩) n c)).alloc (.cells #[.int .i64 k] 3) = w2 from HW2.out.symm]
  clear HW2
  go_upto_region 2 with fail
  rw [HS2.out]
  rw [show w2.alloc (tabBox t) = w3 from HW3.out.symm]
  clear HW3 c0 i0 d0 d1 d2 d3 d4 d5
  go_wp2_with fail
  go_ret
  rw [HS3.out]
  obtain ⟨A', qs, h1, h2⟩ := hend.out
  exact ⟨A', qs, by rw [← h1]; rfl, by rw [hZ.out] at h2; exact h2⟩
end Go.Proofs.Ytogfnjlhfbpneaa
