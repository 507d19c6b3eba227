/- Several texts laid together: TxtSort, TxtKids, TxtKids2. -/
import Derived.Test.YtfljhnalmiibeaaGreatMbClkGrown
import Derived.Test.YtfljhnalmiibeaaGreatMbClkOpen
import Derived.Test.YtfljhnalmiibeaaGreatMbCellOpen
import Derived.Test.YtfljhnalmiibeaaGreatMbShelfP
import Derived.Shelf.SlSortCmp.InsertionK
import Derived.Shelf.SlSortCmp.NoneTotal
import Derived.Maps.AppendAt
namespace Go.Proofs.YtfljhnalmiibeaaGreat
set_option maxRecDepth 100000
open Go.RowKit Go.Sort Srt Go.Shelf Go.Lib
theorem holds_ownT {w : World} {base g n cap : Nat} {e : TypeId} {l : List P11} (h : w.ownsRow base e 11 (.slice (some ⟨g, 0, none⟩) n cap) n (l.flatMap P11.cells)) : HoldsK P11.cells 11 w g 0 l.toArray := by
  intro j hj
  rw [size_flatK] at hj
  have hj2 : j < l.length * 11 := by simpa using hj
  have hd : j / 11 < l.length := by omega
  have hm : j % 11 < 11 := Nat.mod_lt _ (by omega)
  have he : 11 * (j / 11) + j % 11 = j := Nat.div_add_mod j 11
  have hx := List.getElem?_eq_getElem hd
  have hc : (P11.cells l[j / 11])[j % 11]? = some ((P11.cells l[j / 11])[j % 11]!) := by
    have : j % 11 < (P11.cells l[j / 11]).length := hm
    rw [List.getElem?_eq_getElem this, getElem!_pos (P11.cells l[j / 11]) (j % 11) this]
  have hf := flat_at p11len l (j / 11) hd (j % 11) _ hc
  rw [show j / 11 * 11 + j % 11 = j by omega] at hf
  have hln : l.length = n := by have := h.1; rw [flat_len p11len] at this; omega
  have h1 := h.cellAt j (by omega)
  refine ⟨?_, ?_⟩
  · rw [get_flatK _ _ _ _ (by simpa using hj2), Nat.zero_add, h1, hf]
    simp [getElem!_pos, hd]
  · rcases h.2 with ⟨hv, _⟩ | ⟨b, cap', cur, hv, _, hh, _⟩
    · injection hv with e1; cases e1
    · injection hv with e1 e2 e3
      injection e1 with e1
      injection e1 with e1
      subst e1
      exact frozen_row hh _
theorem swoT : SWO (ltOf cmpT) where
  irrefl := fun p => by show decide (cmpT p p < 0) = false; rw [cmpT_lt]; exact ahead_irr p
  trans := fun p q r h k => by
    have h1 : decide (cmpT p q < 0) = true := h
    have k1 : decide (cmpT q r < 0) = true := k
    show decide (cmpT p r < 0) = true
    rw [cmpT_lt] at *; exact ahead_trans h1 k1
  ntrans := fun p q r h k => by
    have h1 : decide (cmpT p q < 0) = false := h
    have k1 : decide (cmpT q r < 0) = false := k
    show decide (cmpT p r < 0) = false
    rw [cmpT_lt] at *; exact ahead_ntrans h1 k1
theorem sorted_listT {l : List P11} {d : Array P11} (hn : l.Pairwise (fun p q => nm p ≠ nm q)) (hp : PermIn 0 l.toArray.size l.toArray d) (hs : SortedIn (ltOf cmpT) 0 l.toArray.size d) : d = (srtT l).toArray := by
  obtain ⟨hsz, _, hperm⟩ := hp
  have e1 : d.extract 0 l.toArray.size = d := by rw [← hsz]; exact Array.extract_size
  rw [e1, Array.extract_size] at hperm
  have : d.toList = srtT l := by
    refine srtT_unique hn hperm ?_
    rw [List.pairwise_iff_getElem]
    intro i j hi hj hij
    have hi2 : i < d.size := by simpa using hi
    have hj2 : j < d.size := by simpa using hj
    have := hs i j (Nat.zero_le _) hij (by omega)
    have h3 : decide (cmpT d[j]! d[i]! < 0) = false := this
    rw [cmpT_lt, getElem!_pos d j hj2, getElem!_pos d i hi2] at h3
    simpa using h3
  rw [← this]
theorem rd_sortT {w : World} {g : Nat} {l d : List P11} {cap : Nat} (hH : HoldsK P11.cells 11 w g 0 l.toArray) (hl : d.length = l.length) (hg : g < w.heap.size) (hc : l.length ≤ cap) (hm : cap ≤ maxLen) (n : Nat) (os : Array Obj) : RdP (sortWorldK P11.cells 11 w g 0 n d.toArray os) (some ⟨g, 0, none⟩) l.length cap d := by
  have h2 := holdsK_sortWorldK_c P11.cells 11 w g 0 l.toArray d.toArray n os hH hg (by simpa using hl)
  refine ⟨hl, hc, hm, fun _ => ⟨g, 0, rfl, Nat.lt_of_lt_of_le hg (size_sortWorldK_c _ _ _ _ _ _ _ _), fun j hj i v hv => ?_⟩⟩
  have hi : i < 11 := (List.getElem?_eq_some_iff.1 hv).1
  have h3 := (h2.cell (i := j) (c := i) (by simpa using hj) hi).1
  rw [h3]
  have e1 : d.toArray[j]! = d[j] := by rw [getElem!_pos _ _ (by simpa using hj)]; simp
  rw [e1]
  obtain ⟨hi2, he2⟩ := List.getElem?_eq_some_iff.1 hv
  rw [getElem!_pos _ i hi2, he2]
theorem below_sortT {w : World} {g n : Nat} {d : Array P11} {os : Array Obj} {base : Nat} {w0 : World} (hb : Below base w0 w) (hg : base ≤ g) (hbs : base ≤ w.heap.size) : Below base w0 (sortWorldK P11.cells 11 w g 0 n d os) := by
  refine hb.trans ⟨rfl, rfl, rfl, size_sortWorldK_c _ _ _ _ _ _ _ _, fun k hk => ?_⟩
  show ((w.heap.modify g _) ++ os)[k]? = _
  rw [Array.getElem?_append_left (by rw [Array.size_modify]; omega), Array.getElem?_modify, if_neg (by omega)]
set_option maxHeartbeats 1600000 in
theorem sortT_any (base n : Nat) (v : Value) (l : List P11) (w w0 : World) (hl : l.length = n) (hown : w.ownsRow base 105 11 v n (l.flatMap P11.cells)) (hn : n ≤ 4294967296) (hb : Below base w0 w) (hd : l.Pairwise (fun p q => nm p ≠ nm q)) :
    Calls Tryz.prog 195 #[v, .func (.func 177) #[] #[]] w fun e w' => e = .returned (.tuple #[]) ∧ (∃ A c, v = .slice A n c ∧ RdP w' A n c (srtT l)) ∧ Below base w0 w' := by
  by_cases h0 : n = 0
  · subst h0
    obtain rfl : l = [] := List.eq_nil_of_length_eq_zero hl
    obtain ⟨A, c, rfl, hrd⟩ := RdG.own_ p11len (by omega) hown
    have := AnyF.slices_SortFunc_none (P := Tryz.prog) (ρ := Tryz.sortT_ren) { Tryz.sortT with } A c (.func (.func 177) #[] #[]) w
    refine Calls.mono this fun e w' h => ⟨h.1, ⟨A, c, rfl, ?_⟩, ?_⟩
    · rw [h.2]; exact hrd
    · rw [h.2]; exact hb
  · subst hl
    obtain ⟨g, cap, rfl⟩ : ∃ g cap, v = .slice (some ⟨g, 0, none⟩) l.length cap := by
      rcases hown.2 with ⟨_, h1⟩ | ⟨g, cap, cur, hv, _⟩
      · exact absurd h1 (by simpa using h0)
      · exact ⟨g, cap, hv⟩
    obtain ⟨A, c, hv, hrd⟩ := RdG.own_ p11len (by omega) hown
    injection hv with e1 e2 e3
    subst e1 e3
    have hH := holds_ownT hown
    have hg := hown.lt g rfl
    have aE : ∀ w, (isAgg 105).run Tryz.prog w = .ok true w := fun _ => by kernel_rfl
    have zE : ∀ w, (Go.sizeOf 105).run Tryz.prog w = .ok 11 w := fun _ => by kernel_rfl
    have eg : ∀ args w, (callFunc 177 args).run Tryz.prog w = .ok (.enter 177 args) w := enters_of Tryz.func177 (by kernel_rfl) rfl
    have hcmp : CmpLays Tryz.prog 177 #[] P11.cells 11 cmpT g 0 l.toArray.size w := fun _ _ _ _ x y => txtCompare_any x y _
    have := AnyQ.slices_SortFunc Tryz.sortT 11 aE zE P11.cells p11len p11one cmpT swoT 177 #[] g 0 cap l.toArray w eg hcmp hH hg.2 (by simp; omega)
    refine Calls.mono this fun e w' h => ⟨h.1, ?_⟩
    obtain ⟨d, m, os, hp, hs, hw⟩ := h.2
    rw [sorted_listT hd hp hs] at hw
    rw [hw]
    exact ⟨⟨_, _, rfl, rd_sortT hH (srtT_perm l).length_eq hg.2 hrd.cap hrd.2.2.1 m os⟩, below_sortT hb hg.1 (by have := hg.1; have := hg.2; omega)⟩
set_option maxHeartbeats 1600000 in
theorem sortedFuncT_any (B1 : Nat) (A : Option Addr) (m c : Nat) (L : List P11) (wb w : World) (hrd : RdP wb A m c L) (hI : ItT B1 A m c wb w) (hn : m ≤ 4294967000) (hd : L.Pairwise (fun p q => nm p ≠ nm q)) :
    Calls Tryz.prog 175 #[.func (.func 196) #[] #[.pointer (some ⟨B1, 0, none⟩)], .func (.func 177) #[] #[]] w fun e w' =>
      ∃ A' c', e = .returned (.slice A' m c') ∧ RdP w' A' m c' (srtT L) ∧ Below w.heap.size w w' := by
  have hl := hrd.len
  have C := Lib.hid (collectT_any B1 A m c L wb w hrd hI hn)
  have HL := Lib.hid hl; have HD := Lib.hid hd; have HN := Lib.hid hn
  clear hrd hI hl hd
  go_enter Tryz.func175, Tryz.ntmps175
  go_wp2_with fail
  refine C.out.mono ?_
  rintro e w2 ⟨v, rfl, h1, h2⟩
  have S := Lib.hid (sortT_any w.heap.size m v L w2 w HL.out h1 (by have := HN.out; omega) h2 HD.out)
  clear C h1 h2
  go_wp2_with fail
  refine S.out.mono ?_
  rintro e w3 ⟨rfl, ⟨A', c', rfl, h3⟩, h4⟩
  clear S
  go_wp2_with fail
  go_ret
  exact ⟨A', c', rfl, h3, h4⟩
end Go.Proofs.YtfljhnalmiibeaaGreat

namespace Go.Proofs.YtfljhnalmiibeaaGreat
set_option maxRecDepth 100000
open Go.RowKit
abbrev nilS : Value := .slice none 0 0
def rowK (es : List (EnK N3)) (n : N3) : Value := (lookE es n).getD nilS
theorem rowK_put (es : List (EnK N3)) (N n : N3) (v : Value) (c : Nat) : rowK (putE es N v c) n = if n = N then v else rowK es n := by
  unfold rowK
  rw [lookE_put]
  split <;> rfl
/-- a row of the call's own, elsewhere -/
theorem own_block {w w' : World} {base : Nat} {e : TypeId} {size : Nat} {v : Value} {n : Nat} {xs : List Value} (h : w.ownsRow base e size v n xs) (hb : ∀ b, v.ownBlock = some b → w'.heap[b]? = w.heap[b]?) : w'.ownsRow base e size v n xs := by
  refine ⟨h.1, ?_⟩
  rcases h.2 with hn | ⟨g, cap, cur, hv, hg, hh, rest⟩
  · exact .inl hn
  · exact .inr ⟨g, cap, cur, hv, hg, by rw [hb g (by rw [hv]; rfl)]; exact hh, rest⟩
theorem own_ne_map {w : World} {base : Nat} {e : TypeId} {size : Nat} {v : Value} {n : Nat} {xs : List Value} (h : w.ownsRow base e size v n xs) {g b : Nat} {es : Array MapEntry} {c : Nat} (hm : w.heap[g]? = some (.map es c)) (hb : v.ownBlock = some b) : b ≠ g := by
  rintro rfl
  rcases h.2 with ⟨rfl, _⟩ | ⟨g, cap, cur, rfl, _, hh, _⟩
  · cases hb
  · cases hb
    rw [hm] at hh; cases hh
/-- the map in block g has slices of the call's own: under n just what f tells -/
structure KidsM (base g : Nat) (es : List (EnK N3)) (c : Nat) (f : N3 → List P11) (W : World) : Prop where
  map : W.heap[g]? = some (mapO N3.agg es c)
  row : ∀ n, W.ownsRow base 105 11 (rowK es n) (f n).length ((f n).flatMap P11.cells)
  off : ∀ n m b, n ≠ m → (rowK es n).ownBlock = some b → (rowK es m).ownBlock ≠ some b
theorem KidsM.below {base g : Nat} {es : List (EnK N3)} {c : Nat} {f : N3 → List P11} {W W' : World} (h : KidsM base g es c f W) (hb : Below W.heap.size W W') : KidsM base g es c f W' :=
  ⟨row_below h.map hb, fun n => own_below (h.row n) hb, h.off⟩
theorem KidsM.put {base g : Nat} {es : List (EnK N3)} {c : Nat} {f : N3 → List P11} {W : World} (h : KidsM base g es c f W) (N : N3) (x : P11) {v' : Value} {W' : World}
    (hown : W'.ownsRow base 105 11 v' ((f N).length + 1) ((f N ++ [x]).flatMap P11.cells)) (hgr : W.grownBy W' (rowK es N).ownBlock) (hat : v'.ownBlock = (rowK es N).ownBlock ∨ v'.ownBlock = some W.heap.size) :
    KidsM base g (putE es N v' c) (clkE es N c) (fun n => if n = N then f N ++ [x] else f n) (putBlock W' g (mapO N3.agg (putE es N v' c) (clkE es N c))) := by
  have hlt : g < W.heap.size := (Array.getElem?_eq_some_iff.1 h.map).1
  have hm' : W'.heap[g]? = some (mapO N3.agg es c) := by
    rw [hgr.block g hlt (fun e => own_ne_map (h.row N) h.map e.symm rfl), h.map]
  refine ⟨putBlock_at hm', fun n => ?_, fun n m b hnm hn hm => ?_⟩
  · rw [rowK_put]
    by_cases hN : n = N
    · rw [if_pos hN, if_pos hN]
      have : ((f N) ++ [x]).length = (f N).length + 1 := by simp
      rw [this]
      exact own_block hown (fun b hb => putBlock_other _ _ (own_ne_map hown hm' hb))
    · rw [if_neg hN, if_neg hN]
      refine own_block (h.row n) (fun b hb => ?_)
      rw [putBlock_other _ _ (own_ne_map (h.row n) h.map hb)]
      exact hgr.block b ((h.row n).lt b hb).2 (fun e => h.off n N b hN hb e.symm)
  · rw [rowK_put] at hn hm
    by_cases hN : n = N
    · rw [if_pos hN] at hn
      rw [if_neg (fun e => hnm (hN.trans e.symm))] at hm
      rcases hat with e | e
      · rw [e] at hn
        exact h.off N m b (fun e => hnm (hN.trans e)) hn hm
      · rw [e] at hn
        injection hn with hn
        have := ((h.row m).lt b hm).2
        omega
    · rw [if_neg hN] at hn
      by_cases hM : m = N
      · rw [if_pos hM] at hm
        rcases hat with e | e
        · rw [e] at hm
          exact h.off n N b hN hn hm
        · rw [e] at hm
          injection hm with hm
          have := ((h.row n).lt b hn).2
          omega
      · rw [if_neg hM] at hm
        exact h.off n m b hnm hn hm
/-- .. and as it is read -/
def KidsR (g : Nat) (m : N3 → List P11) (W : World) : Prop :=
  ∃ es c, W.heap[g]? = some (mapO N3.agg es c) ∧ ∀ n, ∃ A cc, rowK es n = .slice A (m n).length cc ∧ RdP W A (m n).length cc (m n)
theorem KidsR.below {g : Nat} {m : N3 → List P11} {W W' : World} (h : KidsR g m W) (hb : Below W.heap.size W W') : KidsR g m W' := by
  obtain ⟨es, c, h1, h2⟩ := h
  exact ⟨es, c, row_below h1 hb, fun n => by obtain ⟨A, cc, h3, h4⟩ := h2 n; exact ⟨A, cc, h3, h4.below hb⟩⟩
theorem KidsM.read {base g : Nat} {es : List (EnK N3)} {c : Nat} {f : N3 → List P11} {W : World} (h : KidsM base g es c f W) : KidsR g f W :=
  ⟨es, c, h.map, fun n => by obtain ⟨A, cc, e, hr⟩ := RdG.own_ p11len (by omega) (h.row n); exact ⟨A, cc, e, hr⟩⟩
theorem kids_next {s : List P11} {k : Nat} {x : P11} (hx : s[k]? = some x) : kidsT (s.take (k + 1)) = fun n => if n = upN x then kidsT (s.take k) (upN x) ++ [x] else kidsT (s.take k) n := by
  funext n
  have h1 : kidsT (s.take (k + 1)) n = kidsT (s.take k) n ++ if upN x = n then [x] else [] := by
    rw [kidsT, List.take_add_one, hx, List.filter_append]
    congr 1
    by_cases h : upN x = n <;> simp [h]
  rw [h1]
  by_cases h : n = upN x
  · rw [if_pos h, if_pos h.symm, h]
  · rw [if_neg h, if_neg (fun e => h e.symm), List.append_nil]
theorem rdp_grown {w w' : World} {A : Option Addr} {n c : Nat} {l : List P11} {row : Option Nat} (h : RdP w A n c l) (hg : w.grownBy w' row) (hA : ∀ a, A = some a → some a.block ≠ row) : RdP w' A n c l := by
  obtain ⟨hl, h1, h2, hx⟩ := h
  refine ⟨hl, h1, h2, fun h0 => ?_⟩
  obtain ⟨b, o, rfl, hb, hc⟩ := hx h0
  refine ⟨b, o, rfl, Nat.lt_of_lt_of_le hb hg.size, fun j hj i v hv => ?_⟩
  rw [World.cell?_of_block (hg.block b hb (hA _ rfl))]
  exact hc j hj i v hv
theorem rdp_put10 {w : World} {A : Option Addr} {n c : Nat} {l : List P11} (h : RdP w A n c l) {g : Nat} {es : Array MapEntry} {cl : Nat} (hm : w.heap[g]? = some (.map es cl)) (o' : Obj) : RdP (putBlock w g o') A n c l := by
  obtain ⟨hl, h1, h2, hx⟩ := h
  refine ⟨hl, h1, h2, fun h0 => ?_⟩
  obtain ⟨b, o, rfl, hb, hc⟩ := hx h0
  have hne : b ≠ g := by
    rintro rfl
    have := hc 0 (by omega) 0 _ rfl
    simp only [World.cell?, hm] at this
    cases this
  refine ⟨b, o, rfl, by rw [putBlock_size]; exact hb, fun j hj i v hv => ?_⟩
  rw [putBlock_cell w _ _ hne]
  exact hc j hj i v hv
/-- a part more, at a drawn step, behind a row of the call's own -/
theorem step_pushT {w : World} {ops : Array Oper} {o : Oper} {a : Act} {K : Act → World → Prop} {Q : Exit → Act → World → Prop} {E : Prop} (hgd : o.guard = none) (s x : Operand)
    (ho : o.op = .call { callee := .builtin .append, args := #[s, x], argTypes := #[70, 70] })
    (base : Nat) (v : Value) (n : Nat) (l : List P11) (u : P11) (gb : Nat) (hx : a.eval x = .slice (some ⟨gb, 0, none⟩) 1 1) (hs : a.eval s = v)
    (hown : w.ownsRow base 105 11 v n (l.flatMap P11.cells)) (hu : w.heap[gb]? = some (partCells u)) (hn : n < 4294967296) (hbase : base ≤ w.heap.size)
    (h : ∀ v' w', w'.ownsRow base 105 11 v' (n + 1) ((l ++ [u]).flatMap P11.cells) → w.grownBy w' v.ownBlock → (v'.ownBlock = v.ownBlock ∨ v'.ownBlock = some w.heap.size) → K (a.put o.dst v') w') :
    if Region.wanted o (yielded ops a.tmps) = true then Oper.wp Tryz.prog o a w K Q else E := by
  have hw : Region.wanted o (yielded ops a.tmps) = true := by simp [Region.wanted, hgd]
  rw [if_pos hw]
  obtain ⟨i0, hi0, hz0, hz1, hz2⟩ := info_parts Tryz.infoPart
  obtain ⟨v', w', hr, h2, h3, _, h5⟩ := run_append_own_at (P := Tryz.prog) w base 70 o.type 105 i0 _ 11 96 Tryz.underlying70 hi0 hz0 hz1 hz2 rfl (by omega) v n (l.flatMap P11.cells) hown ⟨gb, 0, none⟩ 1 1 u.cells rfl
    (fun j y hj => by rw [Addr.add_lit, Nat.zero_add, cell_row hu]; simpa [P11.cells] using hj) (p11one u) (by simp only [maxLen]; omega) (by omega) hbase
  unfold Oper.wp execOp
  simp only [ho, resolve, invoke, builtin, Sem.run_bind, Sem.run_pure, Result.andThen_ok, List.map_toArray, List.map_cons, List.map_nil, hs, hx, hr]
  refine h _ _ ?_ h3 h5
  rw [List.flatMap_append]
  simpa using h2
end Go.Proofs.YtfljhnalmiibeaaGreat

namespace Go.Proofs.YtfljhnalmiibeaaGreat
set_option maxRecDepth 100000
open Go.RowKit
set_option maxHeartbeats 12800000 in
theorem childrenOf_any (A : Option Addr) (n c : Nat) (L : List P11) (w : World) (h : RdP w A n c L) (hn : n ≤ 4294967000) (hd : L.Pairwise (fun p q => nm p ≠ nm q)) :
    Calls Tryz.prog 148 #[.slice A n c] w fun e w' => ∃ g, w.heap.size ≤ g ∧ e = .returned (.map (some g)) ∧ KidsR g (kidsT (srtT L)) w' ∧ Below w.heap.size w w' := by
  have hle := h.le
  have HRD := Lib.hid h; have HN := Lib.hid hn; have HD := Lib.hid hd
  have hmm := @run_makeMap Tryz.prog
  obtain ⟨S, hS⟩ : ∃ S, Hid (srtT L = S) := ⟨_, rfl⟩
  have hSl : Hid (S.length = n) := by show _ = _; rw [← hS.out, (srtT_perm L).length_eq]; exact h.len
  rw [hS.out]
  obtain ⟨w1, hw1⟩ : ∃ w1, w1 = w.alloc (.map #[] 0) := ⟨_, rfl⟩
  have B1 : Hid (Below w.heap.size w w1) := by rw [hw1]; exact below_new (Below.refl _ _) _
  have M1 : Hid (w1.heap[w.heap.size]? = some (mapO N3.agg [] 0)) := by rw [hw1]; exact heap_alloc_new _ _
  have PV := Lib.hid (fun W => valuesT_any A n c W)
  have SF := Lib.hid (fun W (hb : Below w.heap.size w W) => sortedFuncT_any W.heap.size A n c L W (W.alloc (.cells #[.slice A n c] 70)) (HRD.out.below hb) (itt_new A n c W) HN.out HD.out)
  replace hw1 := Lib.hid hw1
  clear h hn hd
  go_enter Tryz.func148, Tryz.ntmps148
  go_upto_region 2 with fail
  rw [show w.alloc (.map #[] 0) = w1 from hw1.out.symm]
  clear hw1 hmm
  go_wp2_with fail
  refine (PV.out _).mono ?_
  rintro e w2 ⟨rfl, hw2⟩
  have B2 : Below w1.heap.size w1 w2 := by rw [hw2]; exact below_new (Below.refl _ _) _
  have C := Lib.hid (SF.out w1 B1.out)
  rw [← hw2, hS.out] at C
  have M2 := Lib.hid (row_below M1.out B2)
  have HB2 := Lib.hid (below_then B1.out B2)
  clear SF PV hw2 B2 M1 B1
  go_wp2_with fail
  refine C.out.mono ?_
  rintro e w3 ⟨A', c', rfl, hrd3, b3⟩
  have HR3 := Lib.hid hrd3
  have M3 : Hid (KidsM w3.heap.size w.heap.size [] 0 (kidsT (S.take 0)) w3) := ⟨row_below M2.out b3, fun _ => World.ownsRow_nil _ _ _ _, fun _ _ _ _ e => by cases e⟩
  have HA3 : Hid (∀ b o, A' = some ⟨b, o, none⟩ → 0 < n → b < w3.heap.size) := fun b o e h0 => by
    obtain ⟨b', o', e', hb'⟩ := hrd3.hsize h0
    rw [e] at e'; cases e'; exact hb'
  have HB3 := Lib.hid (below_then HB2.out b3)
  clear C hrd3 b3 M2 HB2
  go_wp2_with fail
  have HS3 : Hid (w3.heap.size ≤ w3.heap.size) := Nat.le_refl _
  have HW3 : Hid (w.heap.size ≤ w3.heap.size) := HB3.out.size
  generalize hB3 : w3.heap.size = B3 at M3 HA3 HW3 HS3
  replace HS3 : Hid (B3 ≤ w3.heap.size) := by rw [hB3]; exact Nat.le_refl _
  clear hB3
  go_loopw [11] (fun i wr => ∃ (k : Nat) (es : List (EnK N3)) (cc : Nat), k ≤ n ∧ i = .int .i64 k ∧ Hid (KidsM B3 w.heap.size es cc (kidsT (S.take k)) wr) ∧ Hid (Below w.heap.size w wr) ∧ Hid (RdP wr A' n c' S) ∧ Hid (B3 ≤ wr.heap.size)) (fun i _ => n - (intOf i).toNat)
  case atStart => exact ⟨0, [], 0, Nat.zero_le _, rfl, M3, HB3, HR3, HS3⟩
  case round =>
    clear M3 HB3 HR3 HS3
    obtain ⟨k, es, cc, hk, rfl, HM, HB, HR, HS⟩ := hrel
    by_cases hlt : k < n
    · obtain ⟨b, o, x, rfl, hb, hx, hld⟩ := HR.out.part hlt
      obtain ⟨c0, c1, c2, c3, c4, c5, c6, c7, c8, c9, c10⟩ := hld wr (Below.refl _ _)
      have hnx := Lib.hid (kids_next hx)
      obtain ⟨w2, hw2⟩ : ∃ w2, w2 = wr.alloc (partCells x) := ⟨_, rfl⟩
      have bb : Below wr.heap.size wr w2 := by rw [hw2]; exact below_new (Below.refl _ _) _
      have hnew : w2.heap[wr.heap.size]? = some (partCells x) := by rw [hw2]; exact heap_alloc_new _ _
      obtain ⟨g5, hg5⟩ : ∃ g5, g5 = wr.heap.size := ⟨_, rfl⟩
      have hs2 : Hid (w2.heap.size = g5 + 1) := by rw [hw2, hg5]; show _ = _; simp
      have hbase : Hid (w.heap.size ≤ wr.heap.size) := HB.out.size
      have HM2 := Lib.hid (HM.out.below bb)
      have HB2 := Lib.hid (below_then HB.out bb)
      have HS2 : Hid (B3 ≤ w2.heap.size) := Nat.le_trans HS.out bb.size
      have hb3 : Hid (b < B3) := HA3.out b o rfl (by omega)
      have HR2 := Lib.hid (HR.out.below bb)
      have hown5 : Hid (∀ b, (rowK es (upN x)).ownBlock = some b → b < g5) := fun b hb => by rw [hg5]; exact ((HM.out.row (upN x)).lt b hb).2
      have hflen : Hid ((kidsT (S.take k) (upN x)).length < 4294967296) := by
        have h1 : (kidsT (S.take k) (upN x)).length ≤ (S.take k).length := List.length_filter_le _ _
        have h2 := HN.out; have h3 := hSl.out
        show _ < _
        rw [List.length_take] at h1; omega
      obtain ⟨N, hNx⟩ : ∃ N, Hid (upN x = N) := ⟨_, rfl⟩
      rw [hNx.out] at hnx hown5 hflen
      obtain ⟨v, hv⟩ : ∃ v, Hid (rowK es N = v) := ⟨_, rfl⟩
      rw [hv.out] at hown5
      obtain ⟨fN, hfN⟩ : ∃ fN, Hid (kidsT (S.take k) N = fN) := ⟨_, rfl⟩
      rw [hfN.out] at hnx hflen
      have hrow2 : Hid (∀ W, Below w2.heap.size w2 W → W.ownsRow B3 105 11 v fN.length (fN.flatMap P11.cells)) := fun W hW => by
        have := (HM2.out.below hW).row N
        rwa [hfN.out, hv.out] at this
      have PP : Hid (∀ W, Calls Tryz.prog 146 #[x.agg] W fun e w' => e = .returned N.agg ∧ w' = (W.alloc (partCells x)).alloc (nameRow N)) := fun W => by rw [← hNx.out]; exact parentOf_is x W
      have m0 : AtO w.heap.size (mapO N3.agg es cc) w2 := HM2.out.map
      have m1 := AtO.alloc w.heap.size N3.agg es cc
      have m2 := AtO.drew w.heap.size (mapO N3.agg es cc)
      have RL : ∀ W, AtO w.heap.size (mapO N3.agg es cc) W → (Instr.lookup 172 (.map (some w.heap.size)) N.agg false).run Tryz.prog W = .ok v W := fun W hW => by
        have := run_lookK keyNP hW N
        rw [← hv.out]; exact this
      obtain ⟨U, hU⟩ : ∃ U : World → Value → World, Hid (∀ W v', U W v' = putBlock W w.heap.size (mapO N3.agg (putE es N v' cc) (clkE es N cc))) := ⟨_, fun _ _ => rfl⟩
      have RU : ∀ W v', AtO w.heap.size (mapO N3.agg es cc) W → (Instr.mapUpdate 172 (.map (some w.heap.size)) N.agg v').run Tryz.prog W = .ok () (U W v') := fun W v' hW => by
        rw [hU.out]; exact run_putK keyNP hW N v'
      have K : Hid (∀ W, Below w2.heap.size w2 W → W.cell? ⟨g5, 0, none⟩ = some (.int .i64 x.v.k) ∧ W.cell? ⟨g5, 1, none⟩ = some (.int .i64 x.v.n) ∧ W.cell? ⟨g5, 2, none⟩ = some (.string x.v.s) ∧ W.cell? ⟨g5, 3, none⟩ = some (.int .i64 x.d.d) ∧ W.cell? ⟨g5, 4, none⟩ = some (.int .i64 x.d.s) ∧ W.cell? ⟨g5, 5, none⟩ = some (.int .i64 x.i) ∧ W.cell? ⟨g5, 6, none⟩ = some (.int .i64 x.t) ∧ W.cell? ⟨g5, 7, none⟩ = some (.int .i64 x.a.d) ∧ W.cell? ⟨g5, 8, none⟩ = some (.int .i64 x.a.s) ∧ W.cell? ⟨g5, 9, none⟩ = some (.int .i64 x.j) ∧ W.cell? ⟨g5, 10, none⟩ = some (.bool x.g)) := fun W hW => by
        have := part_row (row_below hnew hW)
        rw [← hg5] at this
        exact this
      have K5 : Hid (∀ W W', Below w2.heap.size w2 W → W.grownBy W' v.ownBlock → W'.cell? ⟨g5, 0, none⟩ = some (.int .i64 x.v.k) ∧ W'.cell? ⟨g5, 1, none⟩ = some (.int .i64 x.v.n) ∧ W'.cell? ⟨g5, 2, none⟩ = some (.string x.v.s) ∧ W'.cell? ⟨g5, 3, none⟩ = some (.int .i64 x.d.d) ∧ W'.cell? ⟨g5, 4, none⟩ = some (.int .i64 x.d.s) ∧ W'.cell? ⟨g5, 5, none⟩ = some (.int .i64 x.i) ∧ W'.cell? ⟨g5, 6, none⟩ = some (.int .i64 x.t) ∧ W'.cell? ⟨g5, 7, none⟩ = some (.int .i64 x.a.d) ∧ W'.cell? ⟨g5, 8, none⟩ = some (.int .i64 x.a.s) ∧ W'.cell? ⟨g5, 9, none⟩ = some (.int .i64 x.j) ∧ W'.cell? ⟨g5, 10, none⟩ = some (.bool x.g)) := fun W W' hW hgr => by
        have h1 := row_below hnew hW
        rw [← hg5] at h1
        have h2 : g5 < W.heap.size := by have := hW.size; have := hs2.out; omega
        exact part_row ((hgr.block g5 h2 (fun e => by have := hown5.out g5 e.symm; omega)).trans h1)
      have K6 : Hid (∀ W v', (W.cell? ⟨g5, 0, none⟩ = some (.int .i64 x.v.k) ∧ W.cell? ⟨g5, 1, none⟩ = some (.int .i64 x.v.n) ∧ W.cell? ⟨g5, 2, none⟩ = some (.string x.v.s) ∧ W.cell? ⟨g5, 3, none⟩ = some (.int .i64 x.d.d) ∧ W.cell? ⟨g5, 4, none⟩ = some (.int .i64 x.d.s) ∧ W.cell? ⟨g5, 5, none⟩ = some (.int .i64 x.i) ∧ W.cell? ⟨g5, 6, none⟩ = some (.int .i64 x.t) ∧ W.cell? ⟨g5, 7, none⟩ = some (.int .i64 x.a.d) ∧ W.cell? ⟨g5, 8, none⟩ = some (.int .i64 x.a.s) ∧ W.cell? ⟨g5, 9, none⟩ = some (.int .i64 x.j) ∧ W.cell? ⟨g5, 10, none⟩ = some (.bool x.g)) → ((U W v').cell? ⟨g5, 0, none⟩ = some (.int .i64 x.v.k) ∧ (U W v').cell? ⟨g5, 1, none⟩ = some (.int .i64 x.v.n) ∧ (U W v').cell? ⟨g5, 2, none⟩ = some (.string x.v.s) ∧ (U W v').cell? ⟨g5, 3, none⟩ = some (.int .i64 x.d.d) ∧ (U W v').cell? ⟨g5, 4, none⟩ = some (.int .i64 x.d.s) ∧ (U W v').cell? ⟨g5, 5, none⟩ = some (.int .i64 x.i) ∧ (U W v').cell? ⟨g5, 6, none⟩ = some (.int .i64 x.t) ∧ (U W v').cell? ⟨g5, 7, none⟩ = some (.int .i64 x.a.d) ∧ (U W v').cell? ⟨g5, 8, none⟩ = some (.int .i64 x.a.s) ∧ (U W v').cell? ⟨g5, 9, none⟩ = some (.int .i64 x.j) ∧ (U W v').cell? ⟨g5, 10, none⟩ = some (.bool x.g))) := fun W v' h => by
        have hne : g5 ≠ w.heap.size := by have := hbase.out; have := HM.out.map; have := (Array.getElem?_eq_some_iff.1 this).1; omega
        have hc : ∀ j, (U W v').cell? ⟨g5, j, none⟩ = W.cell? ⟨g5, j, none⟩ := fun j => by rw [hU.out]; exact putBlock_cell W _ ⟨g5, j, none⟩ hne
        simp only [hc]
        exact h
      have KM5 : Hid (∀ W W', Below w2.heap.size w2 W → W.grownBy W' v.ownBlock → AtO w.heap.size (mapO N3.agg es cc) W') := fun W W' hW hgr => by
        have h1 := (HM2.out.below hW).map
        have hlt : w.heap.size < W.heap.size := (Array.getElem?_eq_some_iff.1 h1).1
        exact (hgr.block _ hlt (fun e => own_ne_map (hrow2.out W hW) h1 e.symm rfl)).trans h1
      have KF : Hid (∀ W W' v', Below w2.heap.size w2 W → W.grownBy W' v.ownBlock → W'.ownsRow B3 105 11 v' (fN.length + 1) ((fN ++ [x]).flatMap P11.cells) → (v'.ownBlock = v.ownBlock ∨ v'.ownBlock = some W.heap.size) →
          KidsM B3 w.heap.size (putE es N v' cc) (clkE es N cc) (kidsT (S.take (k + 1))) (U W' v') ∧ Below w.heap.size w (U W' v') ∧ RdP (U W' v') (some ⟨b, o, none⟩) n c' S ∧ B3 ≤ (U W' v').heap.size) := fun W W' v' hW hgr hown hat => by
        rw [hU.out, hnx.out]
        have h1 := HM2.out.below hW
        have hsz : B3 ≤ W.heap.size := Nat.le_trans HS2.out hW.size
        refine ⟨?_, ?_, ?_, ?_⟩
        · have := h1.put N x (v' := v') (W' := W') (by rw [hfN.out]; exact hown) (by rw [hv.out]; exact hgr) (by rw [hv.out]; exact hat)
          rw [hfN.out] at this
          exact this
        · exact below_putBlock ((below_then HB2.out hW).grown hgr (by have := (below_then HB2.out hW).size; omega) (fun k hk => Nat.le_trans HW3.out ((hrow2.out W hW).lt k hk).1)) (Nat.le_refl _)
        · refine rdp_put10 (rdp_grown (HR2.out.below hW) hgr (fun a ha e => ?_)) (KM5.out _ _ hW hgr) _
          injection ha with ha
          rw [← ha] at e
          have := ((hrow2.out W hW).lt b e.symm).1
          have := hb3.out
          omega
        · rw [putBlock_size]; exact Nat.le_trans hsz hgr.size
      have HBW := HB2
      clear hld hx bb HM HB HR HS hnew
      replace hw2 := Lib.hid hw2
      go_upto_region 5 with fail
      rw [show wr.alloc (partCells x) = w2 from hw2.out.symm, ← hg5]
      clear hw2 hg5 c0 c1 c2 c3 c4 c5 c6 c7 c8 c9 c10
      go_region_held3 (fun W => W.cell? ⟨g5, 0, none⟩ = some (.int .i64 x.v.k) ∧ W.cell? ⟨g5, 1, none⟩ = some (.int .i64 x.v.n) ∧ W.cell? ⟨g5, 2, none⟩ = some (.string x.v.s) ∧ W.cell? ⟨g5, 3, none⟩ = some (.int .i64 x.d.d) ∧ W.cell? ⟨g5, 4, none⟩ = some (.int .i64 x.d.s) ∧ W.cell? ⟨g5, 5, none⟩ = some (.int .i64 x.i) ∧ W.cell? ⟨g5, 6, none⟩ = some (.int .i64 x.t) ∧ W.cell? ⟨g5, 7, none⟩ = some (.int .i64 x.a.d) ∧ W.cell? ⟨g5, 8, none⟩ = some (.int .i64 x.a.s) ∧ W.cell? ⟨g5, 9, none⟩ = some (.int .i64 x.j) ∧ W.cell? ⟨g5, 10, none⟩ = some (.bool x.g))
        (first
          | (refine K.out _ ?_; (repeat (first | exact Below.refl _ _ | refine below_new ?_ _ | refine Below.drew ?_)); done)
          | exact KK5
          | exact K6.out _ _ KK5)
        (first
          | (go_at_call 146; refine (PP.out _).mono ?_; rintro e wx ⟨rfl, rfl⟩)
          | (refine step_pushT rfl (.tmp 21) (.tmp 23) rfl B3 v fN.length fN x _ rfl rfl ?h1 ?h2 hflen.out ?h3 ?_
             case h1 =>
               refine hrow2.out _ ?_
               repeat (first | exact Below.refl w2.heap.size w2 | refine below_new ?_ _ | refine Below.drew ?_)
             case h2 =>
               repeat (first | assumption | (refine heap_at ?_; (try simp only [World.size_alloc]); first | done | omega) | refine heap_drew ?_ | (refine heap_past ?_ ?_; focus ((try simp only [World.size_alloc]); first | done | omega)))
             case h3 =>
               refine Nat.le_trans HS2.out (Below.size (B := w2.heap.size) ?_)
               repeat (first | exact Below.refl w2.heap.size w2 | refine below_new ?_ _ | refine Below.drew ?_)
             intro v5 w5 hw5 hgr5 hat5
             have KK5 := K5.out _ _ (by repeat (first | exact Below.refl _ _ | refine below_new ?_ _ | refine Below.drew ?_)) hgr5
             have m5 := KM5.out _ _ (by repeat (first | exact Below.refl _ _ | refine below_new ?_ _ | refine Below.drew ?_)) hgr5
             have KF5 := Lib.hid (KF.out _ _ _ (by repeat (first | exact Below.refl _ _ | refine below_new ?_ _ | refine Below.drew ?_)) hgr5 hw5 hat5)
             clear hw5 hgr5 hat5))
      all_goals
        obtain ⟨r1, r2, r3, r4⟩ := KF5.out
        have R1 := Lib.hid r1; have R2 := Lib.hid r2; have R3 := Lib.hid r3; have R4 := Lib.hid r4
        clear r1 r2 r3 r4 m0 m1 m2 RL RU KF5 KK5 m5
        go_wp2_with fail
        exact ⟨⟨k + 1, _, _, by omega, by go_num, R1, R2, R3, R4⟩, by simp [intOf]; omega⟩
    · have hfin : Hid (KidsR w.heap.size (kidsT S) wr) := by
        have h1 := HM.out.read
        rw [List.take_of_length_le (by have := hSl.out; omega)] at h1
        exact h1
      clear HM HR HS
      go_wp2_with fail
      go_ret
      exact ⟨_, Nat.le_refl _, rfl, hfin.out, HB.out⟩
end Go.Proofs.YtfljhnalmiibeaaGreat

