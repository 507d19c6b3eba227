/- Layer 10: text.childrenOf: a map of slices that the call makes. -/
import Derived.Test.YthniobpmaahggaaMbTxtMaps
import Derived.Test.YthniobpmaahggaaMbTxtSort
import Derived.Maps.AppendAt
namespace Go.Proofs.Ythniobpmaahggaa
set_option maxRecDepth 100000
open Go.RowKit

abbrev nilS : Value := .slice none 0 0
def rowK (es : List (EnK N3)) (n : N3) : Value := (lookE es n).getD nilS
theorem rowK_put (es : List (EnK N3)) (N n : N3) (v : Value) (c : Nat) : rowK (putE es N v c) n = if n = N then v else rowK es n := by
  unfold rowK
  rw [lookE_put]
  split <;> rfl

/-- a row of the call's own, elsewhere -/
theorem own_block {w w' : World} {base : Nat} {e : TypeId} {size : Nat} {v : Value} {n : Nat} {xs : List Value} (h : w.ownsRow base e size v n xs) (hb : ∀ b, v.ownBlock = some b → w'.heap[b]? = w.heap[b]?) : w'.ownsRow base e size v n xs := by
  refine ⟨h.1, ?_⟩
  rcases h.2 with hn | ⟨g, cap, cur, hv, hg, hh, rest⟩
  · exact .inl hn
  · exact .inr ⟨g, cap, cur, hv, hg, by rw [hb g (by rw [hv]; rfl)]; exact hh, rest⟩
theorem own_ne_map {w : World} {base : Nat} {e : TypeId} {size : Nat} {v : Value} {n : Nat} {xs : List Value} (h : w.ownsRow base e size v n xs) {g b : Nat} {es : Array MapEntry} {c : Nat} (hm : w.heap[g]? = some (.map es c)) (hb : v.ownBlock = some b) : b ≠ g := by
  rintro rfl
  rcases h.2 with ⟨rfl, _⟩ | ⟨g, cap, cur, rfl, _, hh, _⟩
  · cases hb
  · cases hb
    rw [hm] at hh; cases hh

/-- the map in block g has slices of the call's own: under n just what f tells -/
structure KidsM (base g : Nat) (es : List (EnK N3)) (c : Nat) (f : N3 → List P11) (W : World) : Prop where
  map : W.heap[g]? = some (mapO N3.agg es c)
  row : ∀ n, W.ownsRow base 39 11 (rowK es n) (f n).length ((f n).flatMap P11.cells)
  off : ∀ n m b, n ≠ m → (rowK es n).ownBlock = some b → (rowK es m).ownBlock ≠ some b
theorem KidsM.below {base g : Nat} {es : List (EnK N3)} {c : Nat} {f : N3 → List P11} {W W' : World} (h : KidsM base g es c f W) (hb : Below W.heap.size W W') : KidsM base g es c f W' :=
  ⟨row_below h.map hb, fun n => own_below (h.row n) hb, h.off⟩
theorem KidsM.put {base g : Nat} {es : List (EnK N3)} {c : Nat} {f : N3 → List P11} {W : World} (h : KidsM base g es c f W) (N : N3) (x : P11) {v' : Value} {W' : World}
    (hown : W'.ownsRow base 39 11 v' ((f N).length + 1) ((f N ++ [x]).flatMap P11.cells)) (hgr : W.grownBy W' (rowK es N).ownBlock) (hat : v'.ownBlock = (rowK es N).ownBlock ∨ v'.ownBlock = some W.heap.size) :
    KidsM base g (putE es N v' c) (clkE es N c) (fun n => if n = N then f N ++ [x] else f n) (putBlock W' g (mapO N3.agg (putE es N v' c) (clkE es N c))) := by
  have hlt : g < W.heap.size := (Array.getElem?_eq_some_iff.1 h.map).1
  have hm' : W'.heap[g]? = some (mapO N3.agg es c) := by
    rw [hgr.block g hlt (fun e => own_ne_map (h.row N) h.map e.symm rfl), h.map]
  refine ⟨putBlock_at hm', fun n => ?_, fun n m b hnm hn hm => ?_⟩
  · rw [rowK_put]
    by_cases hN : n = N
    · rw [if_pos hN, if_pos hN]
      have : ((f N) ++ [x]).length = (f N).length + 1 := by simp
      rw [this]
      exact own_block hown (fun b hb => putBlock_other _ _ (own_ne_map hown hm' hb))
    · rw [if_neg hN, if_neg hN]
      refine own_block (h.row n) (fun b hb => ?_)
      rw [putBlock_other _ _ (own_ne_map (h.row n) h.map hb)]
      exact hgr.block b ((h.row n).lt b hb).2 (fun e => h.off n N b hN hb e.symm)
  · rw [rowK_put] at hn hm
    by_cases hN : n = N
    · rw [if_pos hN] at hn
      rw [if_neg (fun e => hnm (hN.trans e.symm))] at hm
      rcases hat with e | e
      · rw [e] at hn
        exact h.off N m b (fun e => hnm (hN.trans e)) hn hm
      · rw [e] at hn
        injection hn with hn
        have := ((h.row m).lt b hm).2
        omega
    · rw [if_neg hN] at hn
      by_cases hM : m = N
      · rw [if_pos hM] at hm
        rcases hat with e | e
        · rw [e] at hm
          exact h.off n N b hN hn hm
        · rw [e] at hm
          injection hm with hm
          have := ((h.row n).lt b hn).2
          omega
      · rw [if_neg hM] at hm
        exact h.off n m b hnm hn hm

/-- .. and as it is read -/
def KidsR (g : Nat) (m : N3 → List P11) (W : World) : Prop :=
  ∃ es c, W.heap[g]? = some (mapO N3.agg es c) ∧ ∀ n, ∃ A cc, rowK es n = .slice A (m n).length cc ∧ RdP W A (m n).length cc (m n)
theorem KidsR.below {g : Nat} {m : N3 → List P11} {W W' : World} (h : KidsR g m W) (hb : Below W.heap.size W W') : KidsR g m W' := by
  obtain ⟨es, c, h1, h2⟩ := h
  exact ⟨es, c, row_below h1 hb, fun n => by obtain ⟨A, cc, h3, h4⟩ := h2 n; exact ⟨A, cc, h3, h4.below hb⟩⟩
theorem KidsM.read {base g : Nat} {es : List (EnK N3)} {c : Nat} {f : N3 → List P11} {W : World} (h : KidsM base g es c f W) : KidsR g f W :=
  ⟨es, c, h.map, fun n => by obtain ⟨A, cc, e, hr⟩ := RdG.own_ p11len (by omega) (h.row n); exact ⟨A, cc, e, hr⟩⟩

theorem kids_next {s : List P11} {k : Nat} {x : P11} (hx : s[k]? = some x) : kidsT (s.take (k + 1)) = fun n => if n = upN x then kidsT (s.take k) (upN x) ++ [x] else kidsT (s.take k) n := by
  funext n
  have h1 : kidsT (s.take (k + 1)) n = kidsT (s.take k) n ++ if upN x = n then [x] else [] := by
    rw [kidsT, List.take_add_one, hx, List.filter_append]
    congr 1
    by_cases h : upN x = n <;> simp [h]
  rw [h1]
  by_cases h : n = upN x
  · rw [if_pos h, if_pos h.symm, h]
  · rw [if_neg h, if_neg (fun e => h e.symm), List.append_nil]

theorem rdp_grown {w w' : World} {A : Option Addr} {n c : Nat} {l : List P11} {row : Option Nat} (h : RdP w A n c l) (hg : w.grownBy w' row) (hA : ∀ a, A = some a → some a.block ≠ row) : RdP w' A n c l := by
  obtain ⟨hl, h1, h2, hx⟩ := h
  refine ⟨hl, h1, h2, fun h0 => ?_⟩
  obtain ⟨b, o, rfl, hb, hc⟩ := hx h0
  refine ⟨b, o, rfl, Nat.lt_of_lt_of_le hb hg.size, fun j hj i v hv => ?_⟩
  rw [World.cell?_of_block (hg.block b hb (hA _ rfl))]
  exact hc j hj i v hv
theorem rdp_put {w : World} {A : Option Addr} {n c : Nat} {l : List P11} (h : RdP w A n c l) {g : Nat} {es : Array MapEntry} {cl : Nat} (hm : w.heap[g]? = some (.map es cl)) (o' : Obj) : RdP (putBlock w g o') A n c l := by
  obtain ⟨hl, h1, h2, hx⟩ := h
  refine ⟨hl, h1, h2, fun h0 => ?_⟩
  obtain ⟨b, o, rfl, hb, hc⟩ := hx h0
  have hne : b ≠ g := by
    rintro rfl
    have := hc 0 (by omega) 0 _ rfl
    simp only [World.cell?, hm] at this
    cases this
  refine ⟨b, o, rfl, by rw [putBlock_size]; exact hb, fun j hj i v hv => ?_⟩
  rw [putBlock_cell w _ _ hne]
  exact hc j hj i v hv

/-- a part more, at a drawn step, behind a row of the call's own -/
theorem step_pushT {w : World} {ops : Array Oper} {o : Oper} {a : Act} {K : Act → World → Prop} {Q : Exit → Act → World → Prop} {E : Prop} (hgd : o.guard = none) (s x : Operand)
    (ho : o.op = .call { callee := .builtin .append, args := #[s, x], argTypes := #[24, 24] })
    (base : Nat) (v : Value) (n : Nat) (l : List P11) (u : P11) (gb : Nat) (hx : a.eval x = .slice (some ⟨gb, 0, none⟩) 1 1) (hs : a.eval s = v)
    (hown : w.ownsRow base 39 11 v n (l.flatMap P11.cells)) (hu : w.heap[gb]? = some (partCells u)) (hn : n < 4294967296) (hbase : base ≤ w.heap.size)
    (h : ∀ v' w', w'.ownsRow base 39 11 v' (n + 1) ((l ++ [u]).flatMap P11.cells) → w.grownBy w' v.ownBlock → (v'.ownBlock = v.ownBlock ∨ v'.ownBlock = some w.heap.size) → K (a.put o.dst v') w') :
    if Region.wanted o (yielded ops a.tmps) = true then Oper.wp Try.prog o a w K Q else E := by
  have hw : Region.wanted o (yielded ops a.tmps) = true := by simp [Region.wanted, hgd]
  rw [if_pos hw]
  obtain ⟨i0, hi0, hz0, hz1, hz2⟩ := info_parts Try.infoPart
  obtain ⟨v', w', hr, h2, h3, _, h5⟩ := run_append_own_at (P := Try.prog) w base 24 o.type 39 i0 _ 11 96 Try.underlying24 hi0 hz0 hz1 hz2 rfl (by omega) v n (l.flatMap P11.cells) hown ⟨gb, 0, none⟩ 1 1 u.cells rfl
    (fun j y hj => by rw [Addr.add_lit, Nat.zero_add, cell_row hu]; simpa [P11.cells] using hj) (p11one u) (by simp only [maxLen]; omega) (by omega) hbase
  unfold Oper.wp execOp
  simp only [ho, resolve, invoke, builtin, Sem.run_bind, Sem.run_pure, Result.andThen_ok, List.map_toArray, List.map_cons, List.map_nil, hs, hx, hr]
  refine h _ _ ?_ h3 h5
  rw [List.flatMap_append]
  simpa using h2
end Go.Proofs.Ythniobpmaahggaa

