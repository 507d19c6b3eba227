/- Layer 10: Go's sort of a row of parts, off the library; slices.SortedFunc of a slice's parts. -/
import Derived.Test.YtlgpijdemfccaaaMbTxtSeq
import Derived.Test.YtlgpijdemfccaaaMbTxtCmp2
import Derived.Test.YtlgpijdemfccaaaMbOpen
import Derived.Test.YtlgpijdemfccaaaMbShelfP
import Derived.Shelf.SlSortCmp.InsertionK
import Derived.Shelf.SlSortCmp.NoneTotal
namespace Go.Proofs.Ytlgpijdemfccaaa
set_option maxRecDepth 100000
open Go.RowKit Go.Sort Srt Go.Shelf Go.Lib

theorem holds_ownT {w : World} {base g n cap : Nat} {e : TypeId} {l : List P11} (h : w.ownsRow base e 11 (.slice (some ⟨g, 0, none⟩) n cap) n (l.flatMap P11.cells)) : HoldsK P11.cells 11 w g 0 l.toArray := by
  intro j hj
  rw [size_flatK] at hj
  have hj2 : j < l.length * 11 := by simpa using hj
  have hd : j / 11 < l.length := by omega
  have hm : j % 11 < 11 := Nat.mod_lt _ (by omega)
  have he : 11 * (j / 11) + j % 11 = j := Nat.div_add_mod j 11
  have hx := List.getElem?_eq_getElem hd
  have hc : (P11.cells l[j / 11])[j % 11]? = some ((P11.cells l[j / 11])[j % 11]!) := by
    have : j % 11 < (P11.cells l[j / 11]).length := hm
    rw [List.getElem?_eq_getElem this, getElem!_pos (P11.cells l[j / 11]) (j % 11) this]
  have hf := flat_at p11len l (j / 11) hd (j % 11) _ hc
  rw [show j / 11 * 11 + j % 11 = j by omega] at hf
  have hln : l.length = n := by have := h.1; rw [flat_len p11len] at this; omega
  have h1 := h.cellAt j (by omega)
  refine ⟨?_, ?_⟩
  · rw [get_flatK _ _ _ _ (by simpa using hj2), Nat.zero_add, h1, hf]
    simp [getElem!_pos, hd]
  · rcases h.2 with ⟨hv, _⟩ | ⟨b, cap', cur, hv, _, hh, _⟩
    · injection hv with e1; cases e1
    · injection hv with e1 e2 e3
      injection e1 with e1
      injection e1 with e1
      subst e1
      exact frozen_row hh _

theorem swoT : SWO (ltOf cmpT) where
  irrefl := fun p => by show decide (cmpT p p < 0) = false; rw [cmpT_lt]; exact ahead_irr p
  trans := fun p q r h k => by
    have h1 : decide (cmpT p q < 0) = true := h
    have k1 : decide (cmpT q r < 0) = true := k
    show decide (cmpT p r < 0) = true
    rw [cmpT_lt] at *; exact ahead_trans h1 k1
  ntrans := fun p q r h k => by
    have h1 : decide (cmpT p q < 0) = false := h
    have k1 : decide (cmpT q r < 0) = false := k
    show decide (cmpT p r < 0) = false
    rw [cmpT_lt] at *; exact ahead_ntrans h1 k1

theorem sorted_listT {l : List P11} {d : Array P11} (hn : l.Pairwise (fun p q => nm p ≠ nm q)) (hp : PermIn 0 l.toArray.size l.toArray d) (hs : SortedIn (ltOf cmpT) 0 l.toArray.size d) : d = (srtT l).toArray := by
  obtain ⟨hsz, _, hperm⟩ := hp
  have e1 : d.extract 0 l.toArray.size = d := by rw [← hsz]; exact Array.extract_size
  rw [e1, Array.extract_size] at hperm
  have : d.toList = srtT l := by
    refine srtT_unique hn hperm ?_
    rw [List.pairwise_iff_getElem]
    intro i j hi hj hij
    have hi2 : i < d.size := by simpa using hi
    have hj2 : j < d.size := by simpa using hj
    have := hs i j (Nat.zero_le _) hij (by omega)
    have h3 : decide (cmpT d[j]! d[i]! < 0) = false := this
    rw [cmpT_lt, getElem!_pos d j hj2, getElem!_pos d i hi2] at h3
    simpa using h3
  rw [← this]

theorem rd_sortT {w : World} {g : Nat} {l d : List P11} {cap : Nat} (hH : HoldsK P11.cells 11 w g 0 l.toArray) (hl : d.length = l.length) (hg : g < w.heap.size) (hc : l.length ≤ cap) (hm : cap ≤ maxLen) (n : Nat) (os : Array Obj) : RdP (sortWorldK P11.cells 11 w g 0 n d.toArray os) (some ⟨g, 0, none⟩) l.length cap d := by
  have h2 := holdsK_sortWorldK_c P11.cells 11 w g 0 l.toArray d.toArray n os hH hg (by simpa using hl)
  refine ⟨hl, hc, hm, fun _ => ⟨g, 0, rfl, Nat.lt_of_lt_of_le hg (size_sortWorldK_c _ _ _ _ _ _ _ _), fun j hj i v hv => ?_⟩⟩
  have hi : i < 11 := (List.getElem?_eq_some_iff.1 hv).1
  have h3 := (h2.cell (i := j) (c := i) (by simpa using hj) hi).1
  rw [h3]
  have e1 : d.toArray[j]! = d[j] := by rw [getElem!_pos _ _ (by simpa using hj)]; simp
  rw [e1]
  obtain ⟨hi2, he2⟩ := List.getElem?_eq_some_iff.1 hv
  rw [getElem!_pos _ i hi2, he2]
theorem below_sortT {w : World} {g n : Nat} {d : Array P11} {os : Array Obj} {base : Nat} {w0 : World} (hb : Below base w0 w) (hg : base ≤ g) (hbs : base ≤ w.heap.size) : Below base w0 (sortWorldK P11.cells 11 w g 0 n d os) := by
  refine hb.trans ⟨rfl, rfl, rfl, size_sortWorldK_c _ _ _ _ _ _ _ _, fun k hk => ?_⟩
  show ((w.heap.modify g _) ++ os)[k]? = _
  rw [Array.getElem?_append_left (by rw [Array.size_modify]; omega), Array.getElem?_modify, if_neg (by omega)]

set_option maxHeartbeats 1600000 in
theorem sortT_any (base n : Nat) (v : Value) (l : List P11) (w w0 : World) (hl : l.length = n) (hown : w.ownsRow base 45 11 v n (l.flatMap P11.cells)) (hn : n ≤ 4294967296) (hb : Below base w0 w) (hd : l.Pairwise (fun p q => nm p ≠ nm q)) :
    Calls Try.prog 57 #[v, .func (.func 51) #[] #[]] w fun e w' => e = .returned (.tuple #[]) ∧ (∃ A c, v = .slice A n c ∧ RdP w' A n c (srtT l)) ∧ Below base w0 w' := by
  by_cases h0 : n = 0
  · subst h0
    obtain rfl : l = [] := List.eq_nil_of_length_eq_zero hl
    obtain ⟨A, c, rfl, hrd⟩ := RdG.own_ p11len (by omega) hown
    have := AnyF.slices_SortFunc_none (P := Try.prog) (ρ := Try.sortT_ren) { Try.sortT with } A c (.func (.func 51) #[] #[]) w
    refine Calls.mono this fun e w' h => ⟨h.1, ⟨A, c, rfl, ?_⟩, ?_⟩
    · rw [h.2]; exact hrd
    · rw [h.2]; exact hb
  · subst hl
    obtain ⟨g, cap, rfl⟩ : ∃ g cap, v = .slice (some ⟨g, 0, none⟩) l.length cap := by
      rcases hown.2 with ⟨_, h1⟩ | ⟨g, cap, cur, hv, _⟩
      · exact absurd h1 (by simpa using h0)
      · exact ⟨g, cap, hv⟩
    obtain ⟨A, c, hv, hrd⟩ := RdG.own_ p11len (by omega) hown
    injection hv with e1 e2 e3
    subst e1 e3
    have hH := holds_ownT hown
    have hg := hown.lt g rfl
    have aE : ∀ w, (isAgg 45).run Try.prog w = .ok true w := fun _ => by kernel_rfl
    have zE : ∀ w, (Go.sizeOf 45).run Try.prog w = .ok 11 w := fun _ => by kernel_rfl
    have eg : ∀ args w, (callFunc 51 args).run Try.prog w = .ok (.enter 51 args) w := enters_of Try.func51 (by kernel_rfl) rfl
    have hcmp : CmpLays Try.prog 51 #[] P11.cells 11 cmpT g 0 l.toArray.size w := fun _ _ _ _ x y => txtCompare_any x y _
    have := AnyQ.slices_SortFunc Try.sortT 11 aE zE P11.cells p11len p11one cmpT swoT 51 #[] g 0 cap l.toArray w eg hcmp hH hg.2 (by simp; omega)
    refine Calls.mono this fun e w' h => ⟨h.1, ?_⟩
    obtain ⟨d, m, os, hp, hs, hw⟩ := h.2
    rw [sorted_listT hd hp hs] at hw
    rw [hw]
    exact ⟨⟨_, _, rfl, rd_sortT hH (srtT_perm l).length_eq hg.2 hrd.cap hrd.2.2.1 m os⟩, below_sortT hb hg.1 (by have := hg.1; have := hg.2; omega)⟩

set_option maxHeartbeats 1600000 in
theorem sortedFuncT_any (B1 : Nat) (A : Option Addr) (m c : Nat) (L : List P11) (wb w : World) (hrd : RdP wb A m c L) (hI : ItT B1 A m c wb w) (hn : m ≤ 4294967000) (hd : L.Pairwise (fun p q => nm p ≠ nm q)) :
    Calls Try.prog 49 #[.func (.func 58) #[] #[.pointer (some ⟨B1, 0, none⟩)], .func (.func 51) #[] #[]] w fun e w' =>
      ∃ A' c', e = .returned (.slice A' m c') ∧ RdP w' A' m c' (srtT L) ∧ Below w.heap.size w w' := by
  have hl := hrd.len
  have C := Lib.hid (collectT_any B1 A m c L wb w hrd hI hn)
  have HL := Lib.hid hl; have HD := Lib.hid hd; have HN := Lib.hid hn
  clear hrd hI hl hd
  go_enter Try.func49, Try.ntmps49
  go_wp2_with fail
  refine C.out.mono ?_
  rintro e w2 ⟨v, rfl, h1, h2⟩
  have S := Lib.hid (sortT_any w.heap.size m v L w2 w HL.out h1 (by have := HN.out; omega) h2 HD.out)
  clear C h1 h2
  go_wp2_with fail
  refine S.out.mono ?_
  rintro e w3 ⟨rfl, ⟨A', c', rfl, h3⟩, h4⟩
  clear S
  go_wp2_with fail
  go_ret
  exact ⟨A', c', rfl, h3, h4⟩
end Go.Proofs.Ytlgpijdemfccaaa

